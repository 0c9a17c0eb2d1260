/- What is proved: what the document's own Names tells of few and short files. (and what stands with it) -/
import Derived.Test.YtdopmmnabhcigaaGreatDoorGm
import Derived.Test.YtdopmmnabhcigaaGreatDoorGn

/- What is proved: what the document's own Names tells of few and short files. -/
namespace Go.Proofs.YtdopmmnabhcigaaGreatDoor
open Go.RowKit Go.Shelf

namespace Wo
theorem has_srt (l : List ByteArray) (x : ByteArray) : has (srt l) x = has l x := by
  rw [Bool.eq_iff_iff, has_iff, has_iff]
  exact (srt_spec l).2 x
theorem askedL_take {ls : List Ln} {k : Nat} {x : Ln} (h : ls[k]? = some x) : askedL (ls.take (k + 1)) = askedL (ls.take k) ++ asks x := by
  unfold askedL
  rw [List.take_add_one, h, List.flatMap_append]
  simp
theorem asked_len {ls : List Ln} (h : ∀ x ∈ ls, x.toks.length ≤ 1000) : (askedL ls).length ≤ ls.length * 1000 :=
  flat_len asks 1000 ls fun x hx => by
    unfold asks
    split
    · exact Nat.le_trans (words_len _) (h x hx)
    · simp
end Wo

set_option maxRecDepth 100000 in
set_option maxHeartbeats 16000000 in
theorem rnames_any (v : Value) (fs : Wo.Fs) (hsm : Wo.Small fs) (w : World) (hv : Fls w v fs) :
    Calls Tryz.prog 7 #[v] w fun e W' => ∃ u, e = .returned (.tuple #[u, .int .i64 (Wo.namesE fs)]) ∧ Sts W' u (Wo.names fs) ∧ Below w.heap.size w W' := by
  obtain ⟨ad, cap, rfl, hc1, hc2, -⟩ := id hv
  unfold maxLen at hc2
  have k0 := rknown_any _ fs hsm w hv
  obtain ⟨hb1, hb2⟩ := Wo.lns_small hsm
  have HB1 := Lib.hid hb1
  have HB2 := Lib.hid hb2
  have HV := Lib.hid hv
  have HSm := Lib.hid hsm
  clear hb1 hb2 hv hsm
  go_enter Tryz.func7, Tryz.ntmps7
  go_wp2_with fail
  refine k0.mono ?_
  clear k0
  rintro e w0 ⟨kv, rfl, hkv, hBk⟩
  have k0 := r11lines_any _ fs HSm.out _ (HV.out.below hBk)
  have HKv := Lib.hid hkv
  have HBk := Lib.hid hBk
  clear hkv hBk
  go_wp2_with fail
  refine k0.mono ?_
  clear k0
  rintro e w1 ⟨lv, rfl, hl, hBl⟩
  obtain ⟨lad, lcap, rfl, hl1, hl2, -⟩ := id hl
  unfold maxLen at hl2
  obtain ⟨ls, hls⟩ : ∃ ls, ls = Wo.lns fs := ⟨_, rfl⟩
  obtain ⟨N, hN⟩ : ∃ N, N = ls.length := ⟨_, rfl⟩
  rw [← hls] at HB1 HB2 hl hl1 ⊢
  rw [← hN] at HB1 hl1 ⊢
  obtain ⟨Wt, hWt⟩ : ∃ Wt, Wt = Wo.wanted (Wo.knownL ls) := ⟨_, rfl⟩
  have HKn : Hid (∀ x, Wo.has (Wo.known fs) x = Wo.has (Wo.knownL ls) x) := Lib.hid fun x => by unfold Wo.known; rw [hls]; exact Wo.has_srt _ x
  have HWt := Lib.hid hWt
  have HL : Hid (Lns w1 (.slice lad N lcap) ls) := Lib.hid (by rw [hN]; exact hl)
  have HN := Lib.hid hN
  have HLs := Lib.hid hls
  have HKv1 := Lib.hid (HKv.out.below hBl)
  have HBl := Lib.hid (Below.then HBk.out hBl)
  clear hls hN hl hBl hWt HKv HBk
  go_wp2_with fail
  go_loopw [4, 7, 8, 9, 10, 11] (fun o i _ _ _ _ wr => ∃ k : Nat, i = .int .i64 k ∧ k ≤ N ∧ Sts wr o (Wo.srt ((Wo.askedL (ls.take k)).filter Wt)) ∧ Below w1.heap.size w1 wr) (fun _ i _ _ _ _ _ => N - (intOf i).toNat)
  case atStart => exact ⟨0, rfl, Nat.zero_le _, Sts.none_at _ _ _ (Nat.zero_le _), Below.refl _ _⟩
  case round =>
    obtain ⟨k, rfl, hk, ho, hB⟩ := hrel
    by_cases hlt : k < N
    · obtain ⟨x, hx⟩ : ∃ x, ls[k]? = some x := ⟨_, List.getElem?_eq_getElem (by rw [← HN.out]; exact hlt)⟩
      have HLr := Lib.hid (HL.out.below hB)
      obtain ⟨g, o, rfl, -, -, -, hg, hcell⟩ := HLr.out.cells (by rw [← HN.out]; omega)
      obtain ⟨tv, c0, -, -, c3, hks⟩ := hcell k x hx
      have hto := Wo.askedL_take hx
      obtain ⟨ta, tc, rfl, ht1, ht2, -⟩ := id hks
      unfold maxLen at ht2
      obtain ⟨M, hM⟩ : ∃ M, M = x.toks.length := ⟨_, rfl⟩
      have hks' : Ks wr (.slice ta M tc) x.toks := by rw [hM]; exact hks
      have htz := (HB2.out x (List.mem_of_getElem? hx)).1
      rw [← hM] at c3 ht1 htz
      obtain ⟨kd, hkd⟩ : ∃ kd, kd = x.kind := ⟨_, rfl⟩
      rw [← hkd] at c0
      obtain ⟨P, hP⟩ : ∃ P, P = (Wo.askedL (ls.take k)).filter Wt := ⟨_, rfl⟩
      have hPl : P.length ≤ 10000000 := by
        have h1 := List.length_filter_le Wt (Wo.askedL (ls.take k))
        have h2 := Wo.asked_len (ls := ls.take k) (fun y hy => (HB2.out y (List.mem_of_mem_take hy)).1)
        have h3 : (ls.take k).length ≤ 7000 := by rw [List.length_take, ← HN.out]; have := HB1.out; omega
        rw [hP]
        omega
      rw [← hP] at ho
      have HO := Lib.hid ho
      have HB := Lib.hid hB
      have HPl := Lib.hid hPl
      have HKs := Lib.hid hks'
      have HM := Lib.hid hM
      have HC0 := Lib.hid c0
      have HC3 := Lib.hid c3
      have HGr := Lib.hid hg
      have z1 : (0 : Int) ≤ k := by omega
      have z2 : (k : Int) < N := by omega
      by_cases h25 : kd = 2 ∨ kd = 3 ∨ kd = 4 ∨ kd = 5
      · have hdf : Wo.asks x = Wo.words x.toks := by unfold Wo.asks; rw [if_pos (by rw [← hkd]; exact h25)]
        rw [hdf] at hto
        have HTo : Hid ((Wo.askedL (ls.take (k + 1))).filter Wt = P ++ (Wo.words x.toks).filter Wt) := Lib.hid (by rw [hto, List.filter_append, ← hP])
        clear hx hcell hto hdf hM hkd hks hks' ho hB hP hPl
        obtain ⟨Wr, rfl⟩ : ∃ Wr, Wr = wr := ⟨_, rfl⟩
        rcases h25 with rfl | rfl | rfl | rfl
        all_goals
          go_wp2_with fail
          go_loopw [4, 9, 10, 11] (fun o i _ _ wr => ∃ j : Nat, i = .int .i64 j ∧ j ≤ M ∧ Sts wr o (Wo.srt (P ++ (Wo.words (x.toks.take j)).filter Wt)) ∧ Below Wr.heap.size Wr wr) (fun _ i _ _ _ => M - (intOf i).toNat)
          case atStart => exact ⟨0, rfl, Nat.zero_le _, by simpa [Wo.words] using HO.out, Below.refl _ _⟩
          case round =>
            obtain ⟨j, rfl, hj, ho, hB⟩ := hrel
            by_cases hlt2 : j < M
            · obtain ⟨t, ht⟩ : ∃ t, x.toks[j]? = some t := ⟨_, List.getElem?_eq_getElem (by rw [← HM.out]; exact hlt2)⟩
              obtain ⟨g2, o2, rfl, -, -, -, hg2, hk2⟩ := (HKs.out.below hB).cells (by rw [← HM.out]; omega)
              obtain ⟨d0, d1, d2, d3, d4, d5⟩ := hk2 j t ht
              have b0 : wr.cell? ⟨g, o + k * 4, none⟩ = _ := (hB.cell (p := ⟨g, o + k * 4, none⟩) HGr.out).trans HC0.out
              have b3 : wr.cell? ⟨g, o + k * 4 + 3, none⟩ = _ := (hB.cell (p := ⟨g, o + k * 4 + 3, none⟩) HGr.out).trans HC3.out
              have hto := Wo.words_take ht
              have hpl : (Wo.srt (P ++ (Wo.words (x.toks.take j)).filter Wt)).length ≤ 1000000000 := by
                have h1 := Wo.srt_len (P ++ (Wo.words (x.toks.take j)).filter Wt)
                have h2 := Wo.words_len (x.toks.take j)
                have h3 := List.length_take_le j x.toks
                have h4 := List.length_filter_le Wt (Wo.words (x.toks.take j))
                have h5 := HPl.out
                rw [List.length_append] at h1
                omega
              have kh : ∀ (q : Bool), Wo.has (Wo.knownL ls) t.text = q → ∀ W, Below wr.heap.size wr W → Calls Tryz.prog 22 #[kv, .string t.text] W fun e w' => e = .returned (.bool q) ∧ W = w' := fun q hq W hW => by
                have := rhas_any kv (Wo.known fs) t.text W (((HKv1.out.below HB.out).below hB).below hW)
                rwa [HKn.out, hq] at this
              have HO2 := Lib.hid ho
              have HB3 := Lib.hid hB
              have z3 : (0 : Int) ≤ j := by omega
              have z4 : (j : Int) < M := by omega
              by_cases hq : t.kind = 1 ∧ Wt t.text = true
              · obtain ⟨h1, hw⟩ := hq
                have HT2 : Hid ((Wo.words (x.toks.take (j + 1))).filter Wt = (Wo.words (x.toks.take j)).filter Wt ++ [t.text]) := Lib.hid (by rw [hto, List.filter_append]; simp [Wo.words, h1, hw])
                rw [HWt.out] at hw
                unfold Wo.wanted at hw
                simp only [Bool.and_eq_true, Bool.not_eq_true', decide_eq_false_iff_not] at hw
                obtain ⟨⟨hw1, hw2⟩, hw3⟩ := hw
                replace kh := Lib.hid (kh _ hw1)
                have t5 := lit_no (l := [100, 101, 102, 105, 110, 101, 100]) hw2
                have t6 := lit_no (l := [95, 95, 86, 65, 95, 65, 82, 71, 83, 95, 95]) hw3
                rw [h1] at d0
                obtain ⟨s, hs⟩ : ∃ s, s = t.text := ⟨_, rfl⟩
                rw [← hs] at d1 t5 t6 kh HT2
                have HSs := Lib.hid hpl
                clear ht hk2 hto hpl ho hB h1 hw1 hw2 hw3 hs
                go_wp2_with fail
                refine (kh.out _ ((Below.refl _ wr).alloc (Nat.le_refl _) _)).mono ?_
                clear kh
                rintro e w2 ⟨rfl, rfl⟩
                go_wp2_with fail
                refine (rput_any _ _ s HSs.out _ (HO2.out.below ((Below.refl _ wr).alloc (Nat.le_refl _) _))).mono ?_
                rintro e w2 ⟨u, rfl, hu, hB2⟩
                have HU := Lib.hid hu
                have HB2' := Lib.hid (Below.then (HB3.out.alloc HB3.out.size _) hB2)
                clear hu hB2
                go_wp2_with fail
                go_roundw
                case rel => exact ⟨j + 1, by go_num, by omega, by rw [HT2.out, ← List.append_assoc, Wo.srt_snoc]; exact HU.out, HB2'.out⟩
                case measure => simp [intOf]; omega
              · have HT2 : Hid ((Wo.words (x.toks.take (j + 1))).filter Wt = (Wo.words (x.toks.take j)).filter Wt) := Lib.hid (by
                  rw [hto, List.filter_append]
                  by_cases h1 : t.kind = 1
                  · have hw : Wt t.text = false := by cases hw : Wt t.text with
                      | false => rfl
                      | true => exact absurd ⟨h1, hw⟩ hq
                    simp [Wo.words, h1, hw]
                  · simp [Wo.words, h1])
                have hcase : (t.kind == 1) = false ∨ (t.kind = 1 ∧ (t.text.toList == [100, 101, 102, 105, 110, 101, 100]) = true) ∨ (t.kind = 1 ∧ (t.text.toList == [100, 101, 102, 105, 110, 101, 100]) = false ∧ (t.text.toList == [95, 95, 86, 65, 95, 65, 82, 71, 83, 95, 95]) = true) ∨
                    (t.kind = 1 ∧ (t.text.toList == [100, 101, 102, 105, 110, 101, 100]) = false ∧ (t.text.toList == [95, 95, 86, 65, 95, 65, 82, 71, 83, 95, 95]) = false ∧ Wo.has (Wo.knownL ls) t.text = true) := by
                  by_cases h1 : t.kind = 1
                  · by_cases h2 : t.text = Wo.DEF
                    · exact .inr (.inl ⟨h1, lit_yes h2⟩)
                    · by_cases h3 : t.text = Wo.VAA
                      · exact .inr (.inr (.inl ⟨h1, lit_no h2, lit_yes h3⟩))
                      · refine .inr (.inr (.inr ⟨h1, lit_no h2, lit_no h3, ?_⟩))
                        cases h4 : Wo.has (Wo.knownL ls) t.text with
                        | true => rfl
                        | false =>
                          refine absurd ⟨h1, ?_⟩ hq
                          rw [HWt.out]
                          unfold Wo.wanted
                          rw [h4, decide_eq_false h2, decide_eq_false h3]
                          rfl
                  · exact .inl (by simpa using h1)
                obtain ⟨s, hs⟩ : ∃ s, s = t.text := ⟨_, rfl⟩
                obtain ⟨tk, htk⟩ : ∃ tk, tk = t.kind := ⟨_, rfl⟩
                rw [← hs, ← htk] at hcase
                rw [← htk] at d0
                rw [← hs] at d1 kh
                obtain ⟨q, hqq⟩ : ∃ q, q = Wo.has (Wo.knownL ls) s := ⟨_, rfl⟩
                rw [← hqq] at hcase
                replace kh := Lib.hid (kh q (by rw [hqq]))
                clear ht hk2 hto hpl ho hB hq hs htk hqq
                rcases hcase with t1 | ⟨rfl, t5⟩ | ⟨rfl, t5, t6⟩ | ⟨rfl, t5, t6, rfl⟩
                all_goals
                  go_wp2_with fail
                  refine (kh.out _ ((Below.refl _ wr).alloc (Nat.le_refl _) _)).mono ?_
                  clear kh
                  rintro e w2 ⟨rfl, rfl⟩
                  go_wp2_with fail
                  go_roundw
                  case rel => exact ⟨j + 1, by go_num, by omega, by rw [HT2.out]; exact HO2.out.below ((Below.refl _ wr).alloc (Nat.le_refl _) _), HB3.out.alloc HB3.out.size _⟩
                  case measure => simp [intOf]; omega
            · obtain rfl : j = M := by omega
              have b3 : wr.cell? ⟨g, o + k * 4 + 3, none⟩ = _ := (hB.cell (p := ⟨g, o + k * 4 + 3, none⟩) HGr.out).trans HC3.out
              have hte : x.toks.take j = x.toks := List.take_of_length_le (by rw [← HM.out]; exact Nat.le_refl _)
              rw [hte] at ho
              have HO2 := Lib.hid ho
              have HB3 := Lib.hid (Below.then HB.out hB)
              clear ho hB hte
              go_wp2_with fail
              go_roundw
              case rel => exact ⟨k + 1, by go_num, by omega, by rw [HTo.out]; exact HO2.out, HB3.out⟩
              case measure => simp [intOf]; omega
      · have hdf : Wo.asks x = [] := by unfold Wo.asks; rw [if_neg (by rw [← hkd]; exact h25)]
        have HTo : Hid ((Wo.askedL (ls.take (k + 1))).filter Wt = P) := Lib.hid (by rw [hto, hdf, List.append_nil, hP])
        have t1 : (kd != 2) = true := by simpa using fun h => h25 (.inl h)
        have t2 : (kd != 3) = true := by simpa using fun h => h25 (.inr (.inl h))
        have t3 : (kd != 4) = true := by simpa using fun h => h25 (.inr (.inr (.inl h)))
        have t4 : (kd != 5) = true := by simpa using fun h => h25 (.inr (.inr (.inr h)))
        clear hx hcell hto hdf hM hkd hks hks' ho hB hP hPl h25
        go_wp2_with fail
        go_roundw
        case rel => exact ⟨k + 1, by go_num, by omega, by rw [HTo.out]; exact HO.out, HB.out⟩
        case measure => simp [intOf]; omega
    · obtain rfl : k = N := by omega
      have hte : ls.take k = ls := List.take_of_length_le (by rw [← HN.out]; exact Nat.le_refl _)
      rw [hte] at ho
      have h0 : Wo.srt ((Wo.askedL ls).filter Wt) = Wo.names0 fs := by rw [HWt.out, HLs.out]; rfl
      rw [h0] at ho
      obtain ⟨oa, oc, rfl, ho1, ho2, -⟩ := id ho
      unfold maxLen at ho2
      obtain ⟨Z, hZ⟩ : ∃ Z, Z = (Wo.names0 fs).length := ⟨_, rfl⟩
      have hoz : Sts wr (.slice oa Z oc) (Wo.names0 fs) := by rw [hZ]; exact ho
      have hBw := Below.then HBl.out hB
      rw [← hZ] at ho1 ⊢
      have HO := Lib.hid hoz
      have HB := Lib.hid hBw
      by_cases h8 : 8 < Z
      · have hnm : Wo.names fs = [] := by unfold Wo.names; rw [if_pos (by rw [← hZ]; exact h8)]
        have hne : Wo.namesE fs = 110 := by unfold Wo.namesE; rw [if_pos (by rw [← hZ]; exact h8)]
        have t8 : (8 : Int) < Z := by omega
        have Hnm := Lib.hid hnm
        have Hne := Lib.hid hne
        clear ho hte h0 hoz hBw hB hZ hnm hne
        go_wp2_with fail
        go_ret2
        exact ⟨.slice none 0 0, by rw [Hne.out]; rfl, by rw [Hnm.out]; exact Sts.none_at _ _ _ (Nat.zero_le _), HB.out⟩
      · have hnm : Wo.names fs = Wo.names0 fs := by unfold Wo.names; rw [if_neg (by rw [← hZ]; exact h8)]
        have hne : Wo.namesE fs = 0 := by unfold Wo.namesE; rw [if_neg (by rw [← hZ]; exact h8)]
        have t8 : ¬ (8 : Int) < Z := by omega
        have Hnm := Lib.hid hnm
        have Hne := Lib.hid hne
        clear ho hte h0 hoz hBw hB hZ hnm hne
        go_wp2_with fail
        go_ret2
        exact ⟨_, by rw [Hne.out]; rfl, by rw [Hnm.out]; exact HO.out, HB.out⟩
end Go.Proofs.YtdopmmnabhcigaaGreatDoor
