/- What is proved: what the document's own Spelled tells of few and short files. (and what stands with it) -/
import Derived.Test.YtdopmmnabhcigaaGreatDoorGm

/- What is proved: what the document's own Spelled tells of few and short files. -/
namespace Go.Proofs.YtdopmmnabhcigaaGreatDoor
open Go.RowKit Go.Shelf

namespace Wo
theorem words_len (l : List K) : (words l).length ≤ l.length := by
  unfold words
  rw [List.length_map]
  exact List.length_filter_le _ _
theorem words_take {l : List K} {k : Nat} {t : K} (h : l[k]? = some t) : words (l.take (k + 1)) = words (l.take k) ++ words [t] := by
  unfold words
  rw [List.take_add_one, h, List.filter_append, List.map_append]
  rfl
theorem spell_len {fs : Fs} (h : Small fs) : ((toksFrom 0 fs).flatMap words).length ≤ 7000 := by
  have hz := toksFrom_sizes fs 0 h.2
  have h1 := flat_len words 1000 (toksFrom 0 fs) fun ts ht => by
    have h2 := words_len ts
    have h3 := (hz ts ht).1
    omega
  rw [toksFrom_len] at h1
  have h4 := h.1
  omega
theorem spell_snoc {fs : Fs} {k : Nat} {f : ByteArray × ByteArray} (hf : fs[k]? = some f) : (toksFrom 0 (fs.take (k + 1))).flatMap words = (toksFrom 0 (fs.take k)).flatMap words ++ words (toks k f.2) := by
  have hkl : (fs.take k).length = k := by rw [List.length_take]; have := (List.getElem?_eq_some_iff.1 hf).1; omega
  rw [List.take_add_one, hf]
  show (toksFrom 0 (fs.take k ++ [f])).flatMap words = _
  rw [toksFrom_snoc, List.flatMap_append, Nat.zero_add, hkl]
  simp
end Wo

set_option maxRecDepth 100000 in
set_option maxHeartbeats 8000000 in
theorem rspelled_any (v : Value) (fs : Wo.Fs) (hsm : Wo.Small fs) (w : World) (hv : Fls w v fs) :
    Calls Tryz.prog 14 #[v] w fun e W' => ∃ u, e = .returned u ∧ Sts W' u (Wo.spelled fs) ∧ Below w.heap.size w W' := by
  obtain ⟨ad, cap, rfl, hc1, hc2, -⟩ := id hv
  unfold maxLen at hc2
  obtain ⟨N, hN⟩ : ∃ N, N = fs.length := ⟨_, rfl⟩
  rw [← hN] at hc1 ⊢
  have HV : Hid (Fls w (.slice ad N cap) fs) := Lib.hid (by rw [hN]; exact hv)
  have HN := Lib.hid hN
  have HSm := Lib.hid hsm
  clear hv hN hsm
  go_enter Tryz.func14, Tryz.ntmps14
  go_wp2_with fail
  go_loopw [3, 4, 5, 6] (fun o i _ _ wr => ∃ k : Nat, i = .int .i64 k ∧ k ≤ N ∧ Sts wr o (Wo.srt ((Wo.toksFrom 0 (fs.take k)).flatMap Wo.words)) ∧ Below w.heap.size w wr) (fun _ i _ _ _ => N - (intOf i).toNat)
  case atStart => exact ⟨0, rfl, Nat.zero_le _, Sts.none_at _ _ _ (Nat.zero_le _), Below.refl _ _⟩
  case round =>
    obtain ⟨k, rfl, hk, ho, hB⟩ := hrel
    by_cases hlt : k < N
    · obtain ⟨f, hf⟩ : ∃ f, fs[k]? = some f := ⟨_, List.getElem?_eq_getElem (by rw [← HN.out]; exact hlt)⟩
      obtain ⟨g, o, rfl, -, -, -, hg, hcell⟩ := HV.out.cells (by rw [← HN.out]; omega)
      obtain ⟨-, c1⟩ := hcell k f hf
      have d1 := (hB.cell (p := ⟨g, o + k * 2 + 1, none⟩) hg).trans c1
      obtain ⟨hfz, hfp⟩ := HSm.out.2 f (List.mem_of_getElem? hf)
      have hto := Wo.spell_snoc hf
      obtain ⟨P, hP⟩ : ∃ P, P = (Wo.toksFrom 0 (fs.take k)).flatMap Wo.words := ⟨_, rfl⟩
      have hPl : P.length ≤ 7000 := by rw [hP]; exact Wo.spell_len (Wo.small_take HSm.out k)
      rw [← hP] at ho hto
      have htl := (Wo.toksFrom_sizes [f] k (fun f' h' => by
        simp at h'
        subst h'
        exact ⟨hfz, hfp⟩) (Wo.toks k f.2) (by simp [Wo.toksFrom])).1
      obtain ⟨pa, tx⟩ := f
      dsimp only at d1 hfz hfp hto htl
      obtain ⟨ts, hts⟩ : ∃ ts, ts = Wo.toks k tx := ⟨_, rfl⟩
      rw [← hts] at hto htl
      have HTo := Lib.hid hto
      have HTs := Lib.hid hts
      have HO := Lib.hid ho
      have HB := Lib.hid hB
      have HPl := Lib.hid hPl
      have HTl := Lib.hid htl
      have z1 : (0 : Int) ≤ k := by omega
      have z2 : (k : Int) < N := by omega
      clear hf hcell c1 hto ho hB hP hPl hts htl hfp
      go_wp2_with fail
      refine (rtokens_row k tx (by omega) _).mono ?_
      rintro e w1 ⟨tv, rfl, htv0, hB1⟩
      have htv1 := (Toks.of_row htv0).ks
      have htv : Ks w1 tv ts := by rw [HTs.out]; exact htv1
      obtain ⟨ta, tc, rfl, ht1, ht2, -⟩ := id htv
      unfold maxLen at ht2
      obtain ⟨M, hM⟩ : ∃ M, M = ts.length := ⟨_, rfl⟩
      rw [← hM] at ht1 ⊢
      have HTv : Hid (Ks w1 (.slice ta M tc) ts) := Lib.hid (by rw [hM]; exact htv)
      have HM := Lib.hid hM
      have HO1 := Lib.hid (HO.out.below hB1)
      have HB1 := Lib.hid (Below.then HB.out hB1)
      clear htv0 htv1 htv hM hB1 HO HB
      go_wp2_with fail
      go_loopw [3, 6] (fun o i wr => ∃ j : Nat, i = .int .i64 j ∧ j ≤ M ∧ Sts wr o (Wo.srt (P ++ Wo.words (ts.take j))) ∧ Below w1.heap.size w1 wr) (fun _ i _ => M - (intOf i).toNat)
      case atStart => exact ⟨0, rfl, Nat.zero_le _, by simpa [Wo.words] using HO1.out, Below.refl _ _⟩
      case round =>
        obtain ⟨j, rfl, hj, ho, hB⟩ := hrel
        by_cases hlt2 : j < M
        · obtain ⟨t, ht⟩ : ∃ t, ts[j]? = some t := ⟨_, List.getElem?_eq_getElem (by rw [← HM.out]; exact hlt2)⟩
          obtain ⟨g2, o2, rfl, -, -, -, hg2, hk2⟩ := (HTv.out.below hB).cells (by rw [← HM.out]; omega)
          obtain ⟨d0, d2, -, -, -, -⟩ := hk2 j t ht
          have hto := Wo.words_take ht
          have hpl : (Wo.srt (P ++ Wo.words (ts.take j))).length ≤ 1000000000 := by
            have h1 := Wo.srt_len (P ++ Wo.words (ts.take j))
            have h2 := Wo.words_len (ts.take j)
            have h3 := List.length_take_le' j ts
            have h4 := HTl.out
            have h5 := HPl.out
            rw [List.length_append] at h1
            omega
          have HO := Lib.hid ho
          have HB := Lib.hid hB
          have z3 : (0 : Int) ≤ j := by omega
          have z4 : (j : Int) < M := by omega
          by_cases h1 : t.kind = 1
          · have HT2 : Hid (Wo.words (ts.take (j + 1)) = Wo.words (ts.take j) ++ [t.text]) := Lib.hid (by rw [hto]; simp [Wo.words, h1])
            rw [h1] at d0
            have k1 := rput_any u3 _ t.text hpl _ HO.out
            clear ht hk2 hto hpl ho hB h1
            go_wp2_with fail
            refine k1.mono ?_
            clear k1
            rintro e w2 ⟨u, rfl, hu, hB2⟩
            have HU := Lib.hid hu
            have HB2' := Lib.hid (Below.then HB.out hB2)
            clear hu hB2
            go_wp2_with fail
            go_roundw
            case rel => exact ⟨j + 1, by go_num, by omega, by rw [HT2.out, ← List.append_assoc, Wo.srt_snoc]; exact HU.out, HB2'.out⟩
            case measure => simp [intOf]; omega
          · have HT2 : Hid (Wo.words (ts.take (j + 1)) = Wo.words (ts.take j)) := Lib.hid (by rw [hto]; simp [Wo.words, h1])
            have t1 : (t.kind == 1) = false := by simpa using h1
            clear ht hk2 hto hpl ho hB h1
            go_wp2_with fail
            go_roundw
            case rel => exact ⟨j + 1, by go_num, by omega, by rw [HT2.out]; exact HO.out, HB.out⟩
            case measure => simp [intOf]; omega
        · obtain rfl : j = M := by omega
          have hte : ts.take j = ts := List.take_of_length_le (by rw [← HM.out]; exact Nat.le_refl _)
          rw [hte] at ho
          have HO := Lib.hid ho
          have HB2' := Lib.hid (Below.then HB1.out hB)
          clear ho hB hte
          go_wp2_with fail
          go_roundw
          case rel => exact ⟨k + 1, by go_num, by omega, by rw [HTo.out]; exact HO.out, HB2'.out⟩
          case measure => simp [intOf]; omega
    · obtain rfl : k = N := by omega
      have hte : fs.take k = fs := List.take_of_length_le (by rw [← HN.out]; exact Nat.le_refl _)
      rw [hte] at ho
      have HO : Hid (Sts wr u3 (Wo.spelled fs)) := Lib.hid ho
      clear ho hte
      go_wp2_with fail
      go_ret
      exact ⟨_, rfl, HO.out, hB⟩
end Go.Proofs.YtdopmmnabhcigaaGreatDoor
