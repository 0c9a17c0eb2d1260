/- What is proved: what the program's Defined tells. (and what stands with it) -/
import Derived.Test.YtognifnalfjdgaaGreatDoorGj
import Derived.Test.YtognifnalfjdgaaGreatDoorGg
import Derived.Test.YtognifnalfjdgaaGreatDoorGe
import Derived.Laws.StructEq

/- What is proved: what the program's Defined tells. -/
namespace Go.Proofs.YtognifnalfjdgaaGreatDoor
open Go.RowKit Go.Shelf

/-- What Defined ends with. -/
def DefPost (S : Option (List K)) (w : World) (e : Ending) (w' : World) : Prop :=
  ∃ v er l', e = .returned (.tuple #[v, .int .i64 er]) ∧ Ks w' v l' ∧ Below w.heap.size w w' ∧ ((S = none ∧ er = 90 ∧ l' = []) ∨ (S = some l' ∧ er = 0))
theorem isDef_yes {t : K} (h1 : t.kind = 1) (h2 : t.text = Ie.DEF) : Ie.isDef t = true := by unfold Ie.isDef; rw [decide_eq_true h1, decide_eq_true h2]; rfl
theorem isDef_no {t : K} (h : ¬ (t.kind = 1 ∧ t.text = Ie.DEF)) : Ie.isDef t = false := by
  unfold Ie.isDef
  rw [Bool.and_eq_false_iff, decide_eq_false_iff_not, decide_eq_false_iff_not]
  by_cases h1 : t.kind = 1
  · exact .inr fun h2 => h ⟨h1, h2⟩
  · exact .inl h1
theorem Ie.defd_no {ns : List ByteArray} {f : Nat} {t : K} {r acc : List K} (h : Ie.isDef t = false) : (Ie.defd ns (f + 1) (t :: r)).map (acc ++ ·) = (Ie.defd ns f r).map ((acc ++ [t]) ++ ·) := by
  show (if Ie.isDef t then _ else (Ie.defd ns f r).map (t :: ·)).map _ = _
  rw [if_neg (by rw [h]; decide), Option.map_map]
  congr 1
  funext x
  simp
theorem Ie.defd_none {ns : List ByteArray} {f : Nat} {t : K} {r acc : List K} (h : Ie.isDef t = true) (hq : Ie.asked r = none) : (Ie.defd ns (f + 1) (t :: r)).map (acc ++ ·) = none := by
  show (if Ie.isDef t then (match Ie.asked r with | none => none | some (x, n) => _) else _).map _ = _
  rw [if_pos h, hq]
  rfl
theorem Ie.defd_yes {ns : List ByteArray} {f n : Nat} {x : ByteArray} {t : K} {r acc : List K} (h : Ie.isDef t = true) (hq : Ie.asked r = some (x, n)) :
    (Ie.defd ns (f + 1) (t :: r)).map (acc ++ ·) = (Ie.defd ns f (r.drop n)).map ((acc ++ [Ie.told ns t x]) ++ ·) := by
  show (if Ie.isDef t then (match Ie.asked r with | none => none | some (x, n) => (Ie.defd ns f (r.drop n)).map (Ie.told ns t x :: ·)) else _).map _ = _
  rw [if_pos h, hq]
  show ((Ie.defd ns f (r.drop n)).map (Ie.told ns t x :: ·)).map _ = _
  rw [Option.map_map]
  congr 1
  funext y
  simp
theorem Ie.defd_end (ns : List ByteArray) (f : Nat) (acc : List K) : (Ie.defd ns f []).map (acc ++ ·) = some acc := by
  cases f <;> simp [Ie.defd]

/-- What holds while tokens are passed. -/
structure DI (w : World) (mb L : Nat) (l : List K) (ns : List ByteArray) (S : Option (List K)) (o : Value) (k : Nat) (acc : List K) (f : Nat) (wr : World) : Prop where
  le : k ≤ L
  nm : Nms wr mb ns
  row : wr.ownsRow (w.heap.size + 1) 54 6 o acc.length (ksCells acc)
  bl : Below w.heap.size w wr
  len : acc.length ≤ k
  fuel : L - k ≤ f
  spec : S = (Ie.defd ns f (l.drop k)).map (acc ++ ·)
theorem DI.add {w wr w2 w3 : World} {mb L k m f' : Nat} {l : List K} {ns : List ByteArray} {S : Option (List K)} {o : Value} {acc : List K} {f : Nat} {t : K} {g cap : Nat}
    (h : DI w mb L l ns S o k acc f wr) (hmb : mb = w.heap.size) (hB : Below wr.heap.size wr w2) (hrow : w3.ownsRow (w.heap.size + 1) 54 6 (.slice (some ⟨g, 0, none⟩) (acc.length + 1) cap) (acc.length + 1) (ksCells acc ++ kCells t))
    (hg : w2.grownBy w3 o.ownBlock) (hk : k < m) (hm : m ≤ L) (hf : L - m ≤ f') (hs : S = (Ie.defd ns f' (l.drop m)).map ((acc ++ [t]) ++ ·)) :
    DI w mb L l ns S (.slice (some ⟨g, 0, none⟩) (acc.length + 1) cap) m (acc ++ [t]) f' w3 := by
  have hne : o.ownBlock ≠ some mb := fun e => by have := (h.row.lt mb e).1; omega
  refine ⟨hm, (h.nm.keep hB).grown hg hne, ?_, ?_, by rw [List.length_append]; have := h.len; simp; omega, hf, hs⟩
  · rw [ksCells_append, List.length_append]
    show w3.ownsRow _ _ _ _ (acc.length + 1) _
    simpa [ksCells] using hrow
  · exact (Below.then h.bl hB).grown hg (by have := h.bl.size; have := hB.size; omega) fun i e => by have := (h.row.lt i e).1; omega

set_option maxRecDepth 100000 in
set_option maxHeartbeats 8000000 in
theorem idef_any (v u : Value) (l : List K) (ns : List ByteArray) (w : World) (hv : Ks w v l) (hT : Tb l) (hu : Sts w u ns) (hn : ns.length ≤ 1000000) (hz : ∀ s ∈ ns, s.size ≤ maxLen) :
    Calls Tryz.prog 17 #[v, u] w (DefPost (Ie.defd ns l.length l) w) := by
  obtain ⟨S, hS⟩ : ∃ S, S = Ie.defd ns l.length l := ⟨_, rfl⟩
  rw [← hS]
  have HS := Lib.hid hS
  obtain ⟨i0, hi, hz0, hz1, hz2⟩ := info_parts infoTok
  obtain ⟨uad, ucap, rfl, uc1, uc2, -⟩ := id hu
  obtain ⟨ad, cap, rfl, lc1, lc2, -⟩ := id hv
  obtain ⟨n, hnn⟩ : ∃ n, n = ns.length := ⟨_, rfl⟩
  obtain ⟨L, hL⟩ : ∃ L, L = l.length := ⟨_, rfl⟩
  have hL1 : L ≤ 1000000 := by rw [hL]; exact hT.1
  rw [← hnn] at hu uc1 hn
  rw [← hL] at hv lc1
  rw [← hnn, ← hL]
  have HU := Lib.hid hu
  have HV := Lib.hid hv
  have HT := Lib.hid hT
  have HZ := Lib.hid hz
  have HN := Lib.hid hnn
  have HL := Lib.hid hL
  unfold maxLen at uc2 lc2
  have hmm := @run_makeMap Tryz.prog
  clear hS hu hv hT hz hnn hL
  go_enter Tryz.func17, Tryz.ntmps17
  go_wp2_with fail
  have hB1 : Below w.heap.size w (w.alloc (.map #[] 0)) := Below.alloc (Below.refl _ _) (Nat.le_refl _) _
  have HB1 := Lib.hid hB1
  have HM1 := Lib.hid (nms_made w)
  clear hB1 hmm
  go_loopw [19] (fun vi wr => ∃ k : Nat, vi = .int .i64 k ∧ k ≤ n ∧ Nms wr w.heap.size (ns.take k) ∧ Below w.heap.size w wr) (fun vi _ => n - (intOf vi).toNat)
  case atStart => exact ⟨0, rfl, Nat.zero_le _, HM1.out, HB1.out⟩
  case round =>
    obtain ⟨k, rfl, hk, hnm, hB⟩ := hrel
    by_cases hlt : k < n
    · obtain ⟨x, hx⟩ : ∃ x, ns[k]? = some x := ⟨_, List.getElem?_eq_getElem (by rw [← HN.out]; exact hlt)⟩
      obtain ⟨ad', cap', e, -, -, h3⟩ := HU.out.below hB
      injection e with e1 e2 e3
      subst e1
      obtain ⟨g, o, rfl, c0⟩ := h3 k x hx
      have hxm := HZ.out x (List.mem_of_getElem? hx)
      obtain ⟨W', r1, hN', hgr⟩ := hnm.put x hxm (by rw [List.length_take]; unfold maxLen; omega)
      have htk : ns.take (k + 1) = ns.take k ++ [x] := by
        obtain ⟨h1, h2⟩ := List.getElem?_eq_some_iff.1 hx
        rw [List.take_succ_eq_append_getElem h1, h2]
      have HTK := Lib.hid htk
      have HN' := Lib.hid hN'
      have HB2 := Lib.hid (hB.grown hgr hB.size (fun i e => by cases e; exact Nat.le_refl _))
      have z1 : (0 : Int) ≤ k := by omega
      have z2 : (k : Int) < n := by omega
      clear hx h3 htk hN' hgr hB hnm hxm e2 e3
      go_wp2_with fail
      go_roundw
      case rel => exact ⟨k + 1, by go_num, by omega, by rw [HTK.out]; exact HN'.out, HB2.out⟩
      case measure => simp [intOf]; omega
    · obtain rfl : k = n := by omega
      rw [List.take_of_length_le (by rw [← HN.out]; exact Nat.le_refl _)] at hnm
      have hdi : DI w w.heap.size L l ns S (.slice none 0 0) 0 [] L wr := ⟨Nat.zero_le _, hnm, ⟨by simp [ksCells], .inl ⟨rfl, rfl⟩⟩, hB, Nat.le_refl _, by omega, by rw [HS.out, ← HL.out]; simp⟩
      have HDI := Lib.hid hdi
      clear hnm hB hdi
      go_wp2_with fail
      go_loopw [9, 10] (fun vo va wr => ∃ o, o = vo ∧ ∃ k acc f, va = .int .i64 (k : Nat) ∧ DI w w.heap.size L l ns S o k acc f wr) (fun _ va _ => L - (intOf va).toNat)
      case atStart => exact ⟨_, rfl, 0, [], L, rfl, HDI.out⟩
      case round =>
        obtain ⟨o, ho, k, acc, f, rfl, hD⟩ := hrel
        subst ho
        by_cases hlt : k < L
        · obtain ⟨t, ht⟩ : ∃ t, l[k]? = some t := ⟨_, List.getElem?_eq_getElem (by rw [← HL.out]; exact hlt)⟩
          obtain ⟨f, rfl⟩ : ∃ f', f = f' + 1 := ⟨f - 1, by have := hD.fuel; omega⟩
          have hdrop : l.drop k = t :: l.drop (k + 1) := by
            obtain ⟨h1, h2⟩ := List.getElem?_eq_some_iff.1 ht
            rw [List.drop_eq_getElem_cons h1, h2]
          obtain ⟨g, og, e, -, -, -, hg, hc⟩ := ((HV.out.below hD.bl)).cells (by rw [← HL.out]; omega)
          subst e
          obtain ⟨d0, d1, d2, d3, d4, d5⟩ := hc k t ht
          have hspec := hD.spec
          rw [hdrop] at hspec
          have HSP := Lib.hid hspec
          have HD := Lib.hid hD
          have HRST := Lib.hid hdrop
          have htm : t ∈ l := List.mem_of_getElem? ht
          have hlen := hD.len
          have hrow := hD.row
          have hbs := hD.bl.size
          obtain ⟨m, hm⟩ : ∃ m, m = acc.length := ⟨_, rfl⟩
          obtain ⟨cs, hcs⟩ : ∃ cs, cs = ksCells acc := ⟨_, rfl⟩
          rw [← hm] at hlen
          rw [← hm, ← hcs] at hrow
          have HM := Lib.hid hm
          have HCS := Lib.hid hcs
          have HROW := Lib.hid hrow
          have z1 : (0 : Int) ≤ k := by omega
          have z2 : (k : Int) < L := by omega
          have HHC := Lib.hid hc
          clear hdrop hspec hD hm hcs hrow ht hc
          by_cases hdf : t.kind = 1 ∧ t.text = Ie.DEF
          · have hisd : Ie.isDef t = true := isDef_yes hdf.1 hdf.2
            obtain ⟨kd, tx, tf, fr, en, bl⟩ := t
            dsimp only at d0 d1 d2 d3 d4 d5 hdf
            have e1 : (tx.toList == [100, 101, 102, 105, 110, 101, 100]) = true := lit_yes hdf.2
            have hkd : kd = 1 := hdf.1
            have HISD := Lib.hid hisd
            clear hdf hisd
            -- what stands behind
            have hal := heap_alloc_new wr (.cells #[.int .i64 kd, .string tx, .int .i64 tf, .int .i64 fr, .int .i64 en, .bool bl] 54)
            obtain ⟨Bx, hBx⟩ : ∃ Bx, Bx = wr.heap.size := ⟨_, rfl⟩
            have hA : Below wr.heap.size wr (wr.alloc (.cells #[.int .i64 kd, .string tx, .int .i64 tf, .int .i64 fr, .int .i64 en, .bool bl] 54)) := Below.alloc (Below.refl _ _) (Nat.le_refl _) _
            have hKs1 := HV.out.below (Below.then HD.out.bl hA)
            rw [← hBx] at hal
            have HAL := Lib.hid hal
            have HA := Lib.hid hA
            have HBX := Lib.hid hBx
            subst hkd
            rcases Decidable.em (k + 1 = cap) with hcap | hcap
            · have hrest : l.drop (k + 1) = [] := List.drop_eq_nil_of_le (by rw [← HL.out]; omega)
              have hS2 : S = none := by
                rw [HSP.out, hrest]
                exact Ie.defd_none HISD.out rfl
              have HS2 := Lib.hid hS2
              have hcapL : cap = L := by omega
              subst hcapL
              have hkc : (k : Int) + 1 = cap := by omega
              have K1 : Hid (Calls Tryz.prog 41 #[.slice (some ⟨g, og, none⟩) 0 0] (wr.alloc (.cells #[.int .i64 1, .string tx, .int .i64 tf, .int .i64 fr, .int .i64 en, .bool bl] 54)) fun e w' => e = .returned (.tuple #[.string ⟨#[]⟩, .int .i64 0]) ∧ Below (wr.alloc (.cells #[.int .i64 1, .string tx, .int .i64 tf, .int .i64 fr, .int .i64 en, .bool bl] 54)).heap.size (wr.alloc (.cells #[.int .i64 1, .string tx, .int .i64 tf, .int .i64 fr, .int .i64 en, .bool bl] 54)) w') :=
                Lib.hid (asked_any (.slice (some ⟨g, og, none⟩) 0 0) [] _ (Ks.none_at _ _ 0 (Nat.zero_le _)))
              clear hrest hS2 hal hBx hA hKs1
              go_wp2_with fail
              refine K1.out.mono ?_
              rintro en3 w3 ⟨rfl, hB3⟩
              go_wp2_with fail
              go_ret2
              exact ⟨_, 90, [], rfl, Ks.none_at _ _ _ (by decide), Below.then (Below.then HD.out.bl HA.out) hB3, .inl ⟨HS2.out, rfl, rfl⟩⟩
            · have hpt := hKs1.part (k + 1) L (by omega) (by rw [← HL.out]; exact Nat.le_refl _)
              rw [List.take_of_length_le (by rw [List.length_drop, ← HL.out]; exact Nat.le_refl _)] at hpt
              have K0 := asked_any _ _ _ hpt
              obtain ⟨r, hr⟩ : ∃ r, r = l.drop (k + 1) := ⟨_, rfl⟩
              rw [← hr] at K0
              have HR := Lib.hid hr
              cases hq : Ie.asked r with
              | none =>
                rw [hq] at K0
                have hS2 : S = none := by
                  rw [HSP.out, ← hr]
                  exact Ie.defd_none HISD.out hq
                have HS2 := Lib.hid hS2
                have K1 : Hid (Calls Tryz.prog 41 #[.slice (some ⟨g, og + (k + 1) * 6, none⟩) (L - (k + 1)) (cap - (k + 1))] (wr.alloc (.cells #[.int .i64 1, .string tx, .int .i64 tf, .int .i64 fr, .int .i64 en, .bool bl] 54)) fun e w' => e = .returned (.tuple #[.string ⟨#[]⟩, .int .i64 0]) ∧ Below (wr.alloc (.cells #[.int .i64 1, .string tx, .int .i64 tf, .int .i64 fr, .int .i64 en, .bool bl] 54)).heap.size (wr.alloc (.cells #[.int .i64 1, .string tx, .int .i64 tf, .int .i64 fr, .int .i64 en, .bool bl] 54)) w') := Lib.hid K0
                clear hS2 hal hBx hA hKs1 hpt K0 hr hq
                go_wp2_with fail
                refine K1.out.mono ?_
                rintro en3 w3 ⟨rfl, hB3⟩
                go_wp2_with fail
                go_ret2
                exact ⟨_, 90, [], rfl, Ks.none_at _ _ _ (by decide), Below.then (Below.then HD.out.bl HA.out) hB3, .inl ⟨HS2.out, rfl, rfl⟩⟩
              | some xn =>
                obtain ⟨x, nn⟩ := xn
                rw [hq] at K0
                obtain ⟨hn0, hn1, hn3⟩ := Ie.asked_len hq
                have hxs : x.size ≤ maxLen := by
                  obtain ⟨y, hy, rfl⟩ := Ie.asked_mem hq
                  have := HT.out.2 y (by rw [hr] at hy; exact List.mem_of_mem_drop hy)
                  unfold maxLen; omega
                have hkn : k + 1 + nn ≤ L := by rw [hr, List.length_drop, ← HL.out] at hn1; omega
                have hS2 : S = (Ie.defd ns f (l.drop (k + 1 + nn))).map ((acc ++ [Ie.told ns ⟨1, tx, tf, fr, en, bl⟩ x]) ++ ·) := by
                  rw [HSP.out, ← hr, Ie.defd_yes HISD.out hq, hr, List.drop_drop]
                have HS2 := Lib.hid hS2
                have K1 : Hid (Calls Tryz.prog 41 #[.slice (some ⟨g, og + (k + 1) * 6, none⟩) (L - (k + 1)) (cap - (k + 1))] (wr.alloc (.cells #[.int .i64 1, .string tx, .int .i64 tf, .int .i64 fr, .int .i64 en, .bool bl] 54)) fun e w' => e = .returned (.tuple #[.string x, .int .i64 nn]) ∧ Below (wr.alloc (.cells #[.int .i64 1, .string tx, .int .i64 tf, .int .i64 fr, .int .i64 en, .bool bl] 54)).heap.size (wr.alloc (.cells #[.int .i64 1, .string tx, .int .i64 tf, .int .i64 fr, .int .i64 en, .bool bl] 54)) w') := Lib.hid K0
                have zn : ¬ ((nn : Int) = 0) := by omega
                have zn0 : (0 : Int) ≤ nn := by omega
                have HXS := Lib.hid hxs
                clear hS2 hBx hKs1 hpt K0 hr hq hn1 hxs hal hA
                go_wp2_with fail
                refine K1.out.mono ?_
                rintro en3 w3 ⟨rfl, hB3⟩
                have hb3 := below_heap hB3 HAL.out
                rw [HBX.out] at hb3
                obtain ⟨b0, b1, -, -, -, -⟩ := box6_cells hb3
                have f0 : w3.frozen? ⟨wr.heap.size, 0, none⟩ = false := Lib.frozen_of_heap hb3 0
                have f1 : w3.frozen? ⟨wr.heap.size, 1, none⟩ = false := Lib.frozen_of_heap hb3 1
                have hB4 : Below wr.heap.size wr ((w3.setCell ⟨wr.heap.size, 0, none⟩ (.int .i64 2)).setCell ⟨wr.heap.size, 1, none⟩ (.string ⟨#[48]⟩)) := ((Below.then HA.out hB3).setCell (Nat.le_refl _) _).setCell (Nat.le_refl _) _
                have hb4 : ((w3.setCell ⟨wr.heap.size, 0, none⟩ (.int .i64 2)).setCell ⟨wr.heap.size, 1, none⟩ (.string ⟨#[48]⟩)).heap[wr.heap.size]? = some (.cells #[.int .i64 2, .string ⟨#[48]⟩, .int .i64 tf, .int .i64 fr, .int .i64 en, .bool bl] 54 (0, 0)) := by
                  simp [World.setCell, Array.getElem?_modify, hb3]
                have hnm4 := HD.out.nm.keep hB4
                have HB4 := Lib.hid hB4
                have HBB4 := Lib.hid hb4
                have HNM4 := Lib.hid hnm4
                clear hB3 hb3 hB4 hb4 hnm4 d0 d1 d2 d3 d4 d5
                go_upto_region 18 with (fail)
                obtain ⟨W4, hW4⟩ : ∃ W4, W4 = ((w3.setCell ⟨wr.heap.size, 0, none⟩ (.int .i64 2)).setCell ⟨wr.heap.size, 1, none⟩ (.string ⟨#[48]⟩)) := ⟨_, rfl⟩
                rw [← hW4] at HB4 HBB4 HNM4
                rw [← hW4]
                clear hW4 f0 f1 b0 b1
                have l1 := HNM4.out.look x HXS.out
                obtain ⟨q, hq⟩ : ∃ q, q = Ie.has ns x := ⟨_, rfl⟩
                rw [← hq] at l1
                have HQ := Lib.hid hq
                have hB5 : Below wr.heap.size wr (W4.alloc (.cells #[] 73)) := HB4.out.alloc HB4.out.size _
                have hb5 : (W4.alloc (.cells #[] 73)).heap[wr.heap.size]? = some (.cells #[.int .i64 2, .string ⟨#[48]⟩, .int .i64 tf, .int .i64 fr, .int .i64 en, .bool bl] 54 (0, 0)) := below_heap (Below.alloc (Below.refl _ _) (Nat.le_refl _) _) HBB4.out
                have f5 : (W4.alloc (.cells #[] 73)).frozen? ⟨wr.heap.size, 1, none⟩ = false := Lib.frozen_of_heap hb5 1
                obtain ⟨-, b1, -, -, -, -⟩ := box6_cells hb5
                have HB5 := Lib.hid hB5
                have HBB5 := Lib.hid hb5
                clear hq hB5 hb5
                cases q with
                | false =>
                  go_upto_region 21 with (fail)
                  have hB6 := HB5.out
                  have hb6 := HBB5.out
                  obtain ⟨W6, hW6⟩ : ∃ W6, W6 = W4.alloc (.cells #[] 73) := ⟨_, rfl⟩
                  rw [← hW6] at hB6 hb6
                  rw [← hW6]
                  clear hW6 b1 f5 l1 HB4 HBB4 HNM4 HB5 HBB5
                  have htold : Ie.told ns ⟨1, tx, tf, fr, en, bl⟩ x = ⟨2, ⟨#[48]⟩, tf, fr, en, bl⟩ := by unfold Ie.told; rw [← HQ.out]; rfl
                  obtain ⟨b0, b1, b2, b3, b4, b5⟩ := box6_cells hb6
                  have hrow6 := row_below HROW.out hB6
                  have h6s := hB6.size
                  have HB6 := Lib.hid hB6
                  have HROW6 := Lib.hid hrow6
                  clear hB6 hb6 hrow6
                  go_wp2_with (at_builtin; refine wpList_append_lies _ rfl _ _ 26 rfl (w.heap.size + 1) 54 i0 _ 6 56 Tryz.underlying26 hi hz0 hz1 hz2 rfl (by decide) o m cs rfl (HROW6.out.alloc _) ⟨W6.heap.size, 0, none⟩ 1 1 (kCells ⟨2, ⟨#[48]⟩, tf, fr, en, bl⟩) rfl rfl (World.news_of_block (cs := #[.int .i64 2, .string ⟨#[48]⟩, .int .i64 tf, .int .i64 fr, .int .i64 en, .bool bl]) (t := 54) (fr := (0, 0)) (heap_alloc_new W6 _)) (by simp [Value.oneCell', kCells]) (by decide) (by unfold maxLen; omega) (by omega) (by simp; omega) _ rfl ?_; intro gg cap' w7 hown7 hgrow hat hlt7)
                  go_roundw
                  case rel =>
                    refine ⟨_, rfl, k + 1 + nn, acc ++ [⟨2, ⟨#[48]⟩, tf, fr, en, bl⟩], f, ?_, ?_⟩
                    · congr 1; omega
                    · have hx := HD.out.add (t := ⟨2, ⟨#[48]⟩, tf, fr, en, bl⟩) (g := gg) (cap := cap') (m := k + 1 + nn) (f' := f) rfl (HB6.out.alloc HB6.out.size (.cells #[.int .i64 2, .string ⟨#[48]⟩, .int .i64 tf, .int .i64 fr, .int .i64 en, .bool bl] 54)) (by rw [← HM.out, ← HCS.out]; exact hown7) hgrow (by omega) hkn (by have := HD.out.fuel; omega) (by rw [← htold]; exact HS2.out)
                      rw [← HM.out] at hx
                      exact hx
                  case measure => simp [intOf]; omega
                | true =>
                  go_upto_region 21 with (fail)
                  have hB6 := HB5.out.setCell (p := ⟨wr.heap.size, 1, none⟩) (Nat.le_refl _) (.string ⟨#[49]⟩)
                  have hb6 : ((W4.alloc (.cells #[] 73)).setCell ⟨wr.heap.size, 1, none⟩ (.string ⟨#[49]⟩)).heap[wr.heap.size]? = some (.cells #[.int .i64 2, .string ⟨#[49]⟩, .int .i64 tf, .int .i64 fr, .int .i64 en, .bool bl] 54 (0, 0)) := by
                    have := HBB5.out
                    simp [World.setCell, Array.getElem?_modify] at this ⊢
                    simp [this]
                  obtain ⟨W6, hW6⟩ : ∃ W6, W6 = (W4.alloc (.cells #[] 73)).setCell ⟨wr.heap.size, 1, none⟩ (.string ⟨#[49]⟩) := ⟨_, rfl⟩
                  rw [← hW6] at hB6 hb6
                  rw [← hW6]
                  clear hW6 b1 f5 l1 HB4 HBB4 HNM4 HB5 HBB5
                  have htold : Ie.told ns ⟨1, tx, tf, fr, en, bl⟩ x = ⟨2, ⟨#[49]⟩, tf, fr, en, bl⟩ := by unfold Ie.told; rw [← HQ.out]; rfl
                  obtain ⟨b0, b1, b2, b3, b4, b5⟩ := box6_cells hb6
                  have hrow6 := row_below HROW.out hB6
                  have h6s := hB6.size
                  have HB6 := Lib.hid hB6
                  have HROW6 := Lib.hid hrow6
                  clear hB6 hb6 hrow6
                  go_wp2_with (at_builtin; refine wpList_append_lies _ rfl _ _ 26 rfl (w.heap.size + 1) 54 i0 _ 6 56 Tryz.underlying26 hi hz0 hz1 hz2 rfl (by decide) o m cs rfl (HROW6.out.alloc _) ⟨W6.heap.size, 0, none⟩ 1 1 (kCells ⟨2, ⟨#[49]⟩, tf, fr, en, bl⟩) rfl rfl (World.news_of_block (cs := #[.int .i64 2, .string ⟨#[49]⟩, .int .i64 tf, .int .i64 fr, .int .i64 en, .bool bl]) (t := 54) (fr := (0, 0)) (heap_alloc_new W6 _)) (by simp [Value.oneCell', kCells]) (by decide) (by unfold maxLen; omega) (by omega) (by simp; omega) _ rfl ?_; intro gg cap' w7 hown7 hgrow hat hlt7)
                  go_roundw
                  case rel =>
                    refine ⟨_, rfl, k + 1 + nn, acc ++ [⟨2, ⟨#[49]⟩, tf, fr, en, bl⟩], f, ?_, ?_⟩
                    · congr 1; omega
                    · have hx := HD.out.add (t := ⟨2, ⟨#[49]⟩, tf, fr, en, bl⟩) (g := gg) (cap := cap') (m := k + 1 + nn) (f' := f) rfl (HB6.out.alloc HB6.out.size (.cells #[.int .i64 2, .string ⟨#[49]⟩, .int .i64 tf, .int .i64 fr, .int .i64 en, .bool bl] 54)) (by rw [← HM.out, ← HCS.out]; exact hown7) hgrow (by omega) hkn (by have := HD.out.fuel; omega) (by rw [← htold]; exact HS2.out)
                      rw [← HM.out] at hx
                      exact hx
                  case measure => simp [intOf]; omega
          · have hisd : Ie.isDef t = false := isDef_no hdf
            have hS2 : S = (Ie.defd ns f (l.drop (k + 1))).map ((acc ++ [t]) ++ ·) := by rw [HSP.out, Ie.defd_no hisd]
            have HS2 := Lib.hid hS2
            have hA : Below wr.heap.size wr (wr.alloc (.cells #[.int .i64 t.kind, .string t.text, .int .i64 t.file, .int .i64 t.fr, .int .i64 t.en, .bool t.bl] 54)) := Below.alloc (Below.refl _ _) (Nat.le_refl _) _
            have hA2 := hA.alloc hA.size (.cells #[.int .i64 t.kind, .string t.text, .int .i64 t.file, .int .i64 t.fr, .int .i64 t.en, .bool t.bl] 54)
            have HA2 := Lib.hid hA2
            have hcases : (t.kind = 1 ∧ ¬ t.text = Ie.DEF) ∨ ¬ t.kind = 1 := by
              by_cases h1 : t.kind = 1
              · exact .inl ⟨h1, fun h2 => hdf ⟨h1, h2⟩⟩
              · exact .inr h1
            obtain ⟨kd, tx, tf, fr, en, bl⟩ := t
            dsimp only at d0 d1 d2 d3 d4 d5 hcases HA2 hA
            clear hisd hS2 hdf hA hA2 htm HRST HSP
            rcases hcases with ⟨hkd, htx⟩ | hkd
            · have e1 : (tx.toList == [100, 101, 102, 105, 110, 101, 100]) = false := lit_no htx
              subst hkd
              clear htx
              go_wp2_with (at_builtin; refine wpList_append_lies _ rfl _ _ 26 rfl (w.heap.size + 1) 54 i0 _ 6 56 Tryz.underlying26 hi hz0 hz1 hz2 rfl (by decide) o m cs rfl ((HROW.out.alloc _).alloc _) ⟨wr.heap.size + 1, 0, none⟩ 1 1 (kCells ⟨1, tx, tf, fr, en, bl⟩) rfl rfl (World.news_of_block (cs := #[.int .i64 1, .string tx, .int .i64 tf, .int .i64 fr, .int .i64 en, .bool bl]) (t := 54) (fr := (0, 0)) (heap_alloc2 wr _ _)) (by simp [Value.oneCell', kCells]) (by decide) (by unfold maxLen; omega) (by omega) (by simp; omega) _ rfl ?_; intro gg cap' w7 hown7 hgrow hat hlt7)
              go_roundw
              case rel =>
                refine ⟨_, rfl, k + 1, acc ++ [⟨1, tx, tf, fr, en, bl⟩], f, by go_num, ?_⟩
                have hx := HD.out.add (t := ⟨1, tx, tf, fr, en, bl⟩) (g := gg) (cap := cap') (m := k + 1) (f' := f) rfl HA2.out (by rw [← HM.out, ← HCS.out]; exact hown7) hgrow (by omega) (by omega) (by have := HD.out.fuel; omega) HS2.out
                rw [← HM.out] at hx
                exact hx
              case measure => simp [intOf]; omega
            · skip
              go_wp2_with (at_builtin; refine wpList_append_lies _ rfl _ _ 26 rfl (w.heap.size + 1) 54 i0 _ 6 56 Tryz.underlying26 hi hz0 hz1 hz2 rfl (by decide) o m cs rfl ((HROW.out.alloc _).alloc _) ⟨wr.heap.size + 1, 0, none⟩ 1 1 (kCells ⟨kd, tx, tf, fr, en, bl⟩) rfl rfl (World.news_of_block (cs := #[.int .i64 kd, .string tx, .int .i64 tf, .int .i64 fr, .int .i64 en, .bool bl]) (t := 54) (fr := (0, 0)) (heap_alloc2 wr _ _)) (by simp [Value.oneCell', kCells]) (by decide) (by unfold maxLen; omega) (by omega) (by simp; omega) _ rfl ?_; intro gg cap' w7 hown7 hgrow hat hlt7)
              go_roundw
              case rel =>
                refine ⟨_, rfl, k + 1, acc ++ [⟨kd, tx, tf, fr, en, bl⟩], f, by go_num, ?_⟩
                have hx := HD.out.add (t := ⟨kd, tx, tf, fr, en, bl⟩) (g := gg) (cap := cap') (m := k + 1) (f' := f) rfl HA2.out (by rw [← HM.out, ← HCS.out]; exact hown7) hgrow (by omega) (by omega) (by have := HD.out.fuel; omega) HS2.out
                rw [← HM.out] at hx
                exact hx
              case measure => simp [intOf]; omega
        · obtain rfl : k = L := by have := hD.le; omega
          have hS2 : S = some acc := by
            rw [hD.spec, List.drop_eq_nil_of_le (by rw [← HL.out]; exact Nat.le_refl _)]
            exact Ie.defd_end ns f acc
          have hKs := Ks.of_row (base := w.heap.size + 1) hD.row
          have HF := Lib.hid (And.intro hKs (And.intro hD.bl hS2))
          clear hD hS2 hKs
          go_wp2_with fail
          go_ret2
          exact ⟨_, 0, acc, rfl, HF.out.1, HF.out.2.1, .inr ⟨HF.out.2.2, rfl⟩⟩
end Go.Proofs.YtognifnalfjdgaaGreatDoor

/- What is proved: what the document's own Defined tells. -/
namespace Go.Proofs.YtognifnalfjdgaaGreatDoor
open Go.RowKit Go.Shelf

def Ie.isAt (l : List K) (i : Nat) (s : ByteArray) : Bool := match l[i]? with | none => false | some t => Ie.isS t s
set_option maxRecDepth 100000 in
set_option maxHeartbeats 1000000 in
theorem ris9_any (v : Value) (l : List K) (i : Nat) (s : ByteArray) (w : World) (hv : Ks w v l) (hl : l.length ≤ 1000000) : Calls Tryz.prog 42 #[v, .int .i64 i, .string s] w fun e w' => e = .returned (.bool (Ie.isAt l i s)) ∧ w' = w := by
  obtain ⟨ad, cap, rfl, -⟩ := id hv
  obtain ⟨n, hn⟩ : ∃ n, n = l.length := ⟨_, rfl⟩
  rcases Nat.lt_or_ge i l.length with hlt | hge
  · obtain ⟨t, ht⟩ : ∃ t, l[i]? = some t := ⟨_, List.getElem?_eq_getElem hlt⟩
    have e0 : Ie.isAt l i s = Ie.isS t s := by unfold Ie.isAt; rw [ht]
    rw [e0]
    obtain ⟨g, o, rfl, -, -, -, -, hc⟩ := hv.cells (by omega)
    obtain ⟨d0, d1, -, -, -, -⟩ := hc i t ht
    rw [← hn] at hlt hl ⊢
    obtain ⟨kd, tx, f, fr, en, bl⟩ := t
    dsimp only at d0 d1
    have z1 : (0 : Int) ≤ i := by omega
    have z2 : (i : Int) < n := by omega
    clear hv hc hn ht e0
    by_cases hk : kd = 5
    · by_cases htx : tx = s
      · have e1 : (tx.toList == s.toList) = true := by rw [ba_beq]; exact decide_eq_true htx
        have HT := Lib.hid htx
        clear htx
        go_enter Tryz.func42, Tryz.ntmps42
        go_wp2_with fail
        go_ret
        refine ⟨?_, rfl⟩
        simp [Ie.isS, HT.out, hk]
      · have e1 : (tx.toList == s.toList) = false := lit_ne htx
        have HT := Lib.hid htx
        clear htx
        go_enter Tryz.func42, Tryz.ntmps42
        go_wp2_with fail
        go_ret
        refine ⟨?_, rfl⟩
        simp [Ie.isS, HT.out, hk]
    · go_enter Tryz.func42, Tryz.ntmps42
      go_wp2_with fail
      go_ret
      refine ⟨?_, rfl⟩
      simp [Ie.isS, hk]
  · have e0 : Ie.isAt l i s = false := by unfold Ie.isAt; rw [List.getElem?_eq_none hge]
    rw [e0]
    rw [← hn] at hge hl ⊢
    have z1 : (n : Int) ≤ i := by omega
    clear hv hn e0
    go_enter Tryz.func42, Tryz.ntmps42
    go_wp2_with fail
    go_ret
    exact ⟨rfl, rfl⟩

theorem Ie.isS_kind {t : K} {s : ByteArray} (h : Ie.isS t s = true) : t.kind = 5 := by
  unfold Ie.isS at h
  simp only [Bool.and_eq_true, decide_eq_true_iff] at h
  exact h.1
/-- A name alone. -/
theorem Ie.asked_p1 {l : List K} {j : Nat} (_ : Ie.isAt l j Ie.sLp = false) {a : K} (ha : l[j]? = some a) (hk : a.kind = 1) : Ie.asked (l.drop j) = some (a.text, 1) := by
  obtain ⟨h1, h2⟩ := List.getElem?_eq_some_iff.1 ha
  rw [List.drop_eq_getElem_cons h1, h2]
  exact if_pos hk
theorem Ie.asked_p1n {l : List K} {j : Nat} (ho : Ie.isAt l j Ie.sLp = false) (hn : ∀ a, l[j]? = some a → a.kind ≠ 1) : Ie.asked (l.drop j) = none := by
  cases ha : l[j]? with
  | none =>
    rw [List.drop_eq_nil_of_le (by rw [List.getElem?_eq_none_iff] at ha; exact ha)]
    rfl
  | some a =>
    obtain ⟨h1, h2⟩ := List.getElem?_eq_some_iff.1 ha
    rw [List.drop_eq_getElem_cons h1, h2]
    unfold Ie.isAt at ho
    rw [ha] at ho
    have hk := hn a ha
    match l.drop (j + 1) with
    | [] => exact if_neg hk
    | [b] => exact if_neg hk
    | b :: c :: r => exact (if_neg hk).trans (if_neg fun h => by have ho' : Ie.isS a Ie.sLp = false := ho; rw [h.1] at ho'; cases ho')
theorem Ie.asked_p2 {l : List K} {j : Nat} {b : K} (ho : Ie.isAt l j Ie.sLp = true) (hb : l[j + 1]? = some b) (hk : b.kind = 1) (hc : Ie.isAt l (j + 2) Ie.sRp = true) : Ie.asked (l.drop j) = some (b.text, 3) := by
  unfold Ie.isAt at ho hc
  cases ha : l[j]? with
  | none => rw [ha] at ho; cases ho
  | some a =>
    rw [ha] at ho
    cases hcc : l[j + 2]? with
    | none => rw [hcc] at hc; cases hc
    | some c =>
      rw [hcc] at hc
      obtain ⟨h1, h2⟩ := List.getElem?_eq_some_iff.1 ha
      obtain ⟨h3, h4⟩ := List.getElem?_eq_some_iff.1 hb
      obtain ⟨h5, h6⟩ := List.getElem?_eq_some_iff.1 hcc
      rw [List.drop_eq_getElem_cons h1, h2, List.drop_eq_getElem_cons h3, h4, List.drop_eq_getElem_cons h5, h6]
      have := Ie.isS_kind ho
      exact (if_neg (by omega)).trans (if_pos ⟨ho, hk, hc⟩)
theorem Ie.asked_p2n {l : List K} {j : Nat} (ho : Ie.isAt l j Ie.sLp = true) (hn : (∀ b, l[j + 1]? = some b → b.kind ≠ 1) ∨ Ie.isAt l (j + 2) Ie.sRp = false) : Ie.asked (l.drop j) = none := by
  unfold Ie.isAt at ho hn
  cases ha : l[j]? with
  | none => rw [ha] at ho; cases ho
  | some a =>
    rw [ha] at ho
    have hak := Ie.isS_kind ho
    obtain ⟨h1, h2⟩ := List.getElem?_eq_some_iff.1 ha
    rw [List.drop_eq_getElem_cons h1, h2]
    have hk : ¬ a.kind = 1 := by omega
    cases hb : l[j + 1]? with
    | none =>
      rw [List.drop_eq_nil_of_le (by rw [List.getElem?_eq_none_iff] at hb; exact hb)]
      exact if_neg hk
    | some b =>
      obtain ⟨h3, h4⟩ := List.getElem?_eq_some_iff.1 hb
      rw [List.drop_eq_getElem_cons h3, h4]
      cases hc : l[j + 2]? with
      | none =>
        rw [List.drop_eq_nil_of_le (by rw [List.getElem?_eq_none_iff] at hc; exact hc)]
        exact if_neg hk
      | some c =>
        obtain ⟨h5, h6⟩ := List.getElem?_eq_some_iff.1 hc
        rw [List.drop_eq_getElem_cons h5, h6]
        refine (if_neg hk).trans (if_neg fun h => ?_)
        rcases hn with hn | hn
        · exact hn b hb h.2.1
        · rw [hc] at hn
          have hn' : Ie.isS c Ie.sRp = false := hn
          rw [h.2.2] at hn'
          cases hn'
theorem Ie.has_take {ns : List ByteArray} {j : Nat} {y x : ByteArray} (h : ns[j]? = some y) : Ie.has (ns.take (j + 1)) x = (Ie.has (ns.take j) x || decide (y = x)) := by
  obtain ⟨h1, h2⟩ := List.getElem?_eq_some_iff.1 h
  rw [List.take_succ_eq_append_getElem h1, h2]
  unfold Ie.has
  rw [List.any_append]
  simp

/-- What holds while tokens are passed. -/
structure DR (w : World) (L : Nat) (l : List K) (ns : List ByteArray) (S : Option (List K)) (o : Value) (k : Nat) (acc : List K) (f : Nat) (wr : World) : Prop where
  le : k ≤ L
  row : wr.ownsRow w.heap.size 54 6 o acc.length (ksCells acc)
  bl : Below w.heap.size w wr
  len : acc.length ≤ k
  fuel : L - k ≤ f
  spec : S = (Ie.defd ns f (l.drop k)).map (acc ++ ·)
theorem DR.add {w wr w2 w3 : World} {L k m f' : Nat} {l : List K} {ns : List ByteArray} {S : Option (List K)} {o : Value} {acc : List K} {f : Nat} {t : K} {g cap : Nat}
    (h : DR w L l ns S o k acc f wr) (hB : Below wr.heap.size wr w2) (hrow : w3.ownsRow w.heap.size 54 6 (.slice (some ⟨g, 0, none⟩) (acc.length + 1) cap) (acc.length + 1) (ksCells acc ++ kCells t))
    (hg : w2.grownBy w3 o.ownBlock) (hk : k < m) (hm : m ≤ L) (hf : L - m ≤ f') (hs : S = (Ie.defd ns f' (l.drop m)).map ((acc ++ [t]) ++ ·)) :
    DR w L l ns S (.slice (some ⟨g, 0, none⟩) (acc.length + 1) cap) m (acc ++ [t]) f' w3 := by
  refine ⟨hm, ?_, ?_, by rw [List.length_append]; have := h.len; simp; omega, hf, hs⟩
  · rw [ksCells_append, List.length_append]
    show w3.ownsRow _ _ _ _ (acc.length + 1) _
    simpa [ksCells] using hrow
  · exact (Below.then h.bl hB).grown hg (by have := h.bl.size; have := hB.size; omega) fun i e => (h.row.lt i e).1

set_option maxRecDepth 100000 in
set_option maxHeartbeats 8000000 in
theorem rdef_any (v u : Value) (l : List K) (ns : List ByteArray) (w : World) (hv : Ks w v l) (hT : Tb l) (hu : Sts w u ns) (hn : ns.length ≤ 1000000) :
    Calls Tryz.prog 18 #[v, u] w (DefPost (Ie.defd ns l.length l) w) := by
  obtain ⟨S, hS⟩ : ∃ S, S = Ie.defd ns l.length l := ⟨_, rfl⟩
  rw [← hS]
  have HS := Lib.hid hS
  obtain ⟨i0, hi, hz0, hz1, hz2⟩ := info_parts infoTok
  obtain ⟨uad, ucap, rfl, uc1, uc2, -⟩ := id hu
  obtain ⟨ad, cap, rfl, lc1, lc2, -⟩ := id hv
  obtain ⟨n, hnn⟩ : ∃ n, n = ns.length := ⟨_, rfl⟩
  obtain ⟨L, hL⟩ : ∃ L, L = l.length := ⟨_, rfl⟩
  have hL1 : L ≤ 1000000 := by rw [hL]; exact hT.1
  rw [← hnn] at hu uc1 hn
  rw [← hL] at hv lc1
  rw [← hnn, ← hL]
  have HU := Lib.hid hu
  have HV := Lib.hid hv
  have HT := Lib.hid hT
  have HN := Lib.hid hnn
  have HL := Lib.hid hL
  unfold maxLen at uc2 lc2
  have hdi : DR w L l ns S (.slice none 0 0) 0 [] L w := ⟨Nat.zero_le _, ⟨by simp [ksCells], .inl ⟨rfl, rfl⟩⟩, Below.refl _ _, Nat.le_refl _, by omega, by rw [hS, ← hL]; simp⟩
  have HDI := Lib.hid hdi
  clear hS hu hv hT hnn hL hdi
  go_enter Tryz.func18, Tryz.ntmps18
  go_wp2_with fail
  go_loopw [6, 7] (fun vo va wr => ∃ o, o = vo ∧ ∃ k acc f, va = .int .i64 (k : Nat) ∧ DR w L l ns S o k acc f wr) (fun _ va _ => L - (intOf va).toNat)
  case atStart => exact ⟨_, rfl, 0, [], L, rfl, HDI.out⟩
  case round =>
    obtain ⟨o, ho, k, acc, f, rfl, hD⟩ := hrel
    subst ho
    obtain ⟨V, hV⟩ : ∃ V, V = wr := ⟨_, rfl⟩
    rw [← hV] at hD
    rw [← hV]
    clear hV
    by_cases hlt : k < L
    · obtain ⟨t, ht⟩ : ∃ t, l[k]? = some t := ⟨_, List.getElem?_eq_getElem (by rw [← HL.out]; exact hlt)⟩
      obtain ⟨f, rfl⟩ : ∃ f', f = f' + 1 := ⟨f - 1, by have := hD.fuel; omega⟩
      have hdrop : l.drop k = t :: l.drop (k + 1) := by
        obtain ⟨h1, h2⟩ := List.getElem?_eq_some_iff.1 ht
        rw [List.drop_eq_getElem_cons h1, h2]
      obtain ⟨g, og, e, -, -, -, hg, hc⟩ := ((HV.out.below hD.bl)).cells (by rw [← HL.out]; omega)
      subst e
      obtain ⟨d0, d1, d2, d3, d4, d5⟩ := hc k t ht
      have hspec := hD.spec
      rw [hdrop] at hspec
      have HSP := Lib.hid hspec
      have HD := Lib.hid hD
      have hlen := hD.len
      have hrow := hD.row
      have hbs := hD.bl.size
      obtain ⟨m, hm⟩ : ∃ m, m = acc.length := ⟨_, rfl⟩
      obtain ⟨cs, hcs⟩ : ∃ cs, cs = ksCells acc := ⟨_, rfl⟩
      rw [← hm] at hlen
      rw [← hm, ← hcs] at hrow
      have HM := Lib.hid hm
      have HCS := Lib.hid hcs
      have HROW := Lib.hid hrow
      have z1 : (0 : Int) ≤ k := by omega
      have z2 : (k : Int) < L := by omega
      have HHC := Lib.hid hc
      clear hdrop hspec hD hm hcs hrow ht hc
      by_cases hdf : t.kind = 1 ∧ t.text = Ie.DEF
      · have hisd : Ie.isDef t = true := isDef_yes hdf.1 hdf.2
        obtain ⟨kd, tx, tf, fr, en, bl⟩ := t
        dsimp only at d0 d1 d2 d3 d4 d5 hdf
        have e1 : (tx.toList == [100, 101, 102, 105, 110, 101, 100]) = true := lit_yes hdf.2
        have hkd : kd = 1 := hdf.1
        have HISD := Lib.hid hisd
        clear hdf hisd
        subst hkd
        have hal := heap_alloc_new V (.cells #[.int .i64 1, .string tx, .int .i64 tf, .int .i64 fr, .int .i64 en, .bool bl] 54)
        have hA : Below V.heap.size V (V.alloc (.cells #[.int .i64 1, .string tx, .int .i64 tf, .int .i64 fr, .int .i64 en, .bool bl] 54)) := Below.alloc (Below.refl _ _) (Nat.le_refl _) _
        have hKs1 := HV.out.below (Below.then HD.out.bl hA)
        have HAL := Lib.hid hal
        have HA := Lib.hid hA
        have HK1 := Lib.hid hKs1
        have I1 := Lib.hid (ris9_any _ l (k + 1) Ie.sLp _ hKs1 (by rw [← HL.out]; exact hL1))
        obtain ⟨q, hq⟩ : ∃ q, q = Ie.isAt l (k + 1) Ie.sLp := ⟨_, rfl⟩
        rw [← hq] at I1
        have HQ := Lib.hid hq
        clear hal hA hKs1 hq
        go_wp2_with fail
        rw [show ((k : Int) + 1) = ((k + 1 : Nat) : Int) by omega]
        refine I1.out.mono ?_
        rintro en3 w3 ⟨rfl, rfl⟩
        obtain ⟨WA, hWA⟩ : ∃ WA, WA = V.alloc (.cells #[.int .i64 1, .string tx, .int .i64 tf, .int .i64 fr, .int .i64 en, .bool bl] 54) := ⟨_, rfl⟩
        rw [← hWA] at HA HAL HK1
        rw [← hWA]
        clear hWA I1
        cases q with
        | false =>
          rcases Nat.lt_or_ge (k + 1) L with hj | hj
          · obtain ⟨a, ha⟩ : ∃ a, l[k + 1]? = some a := ⟨_, List.getElem?_eq_getElem (by rw [← HL.out]; exact hj)⟩
            obtain ⟨g', o', e, -, -, -, -, hc1⟩ := HK1.out.cells (by rw [← HL.out]; omega)
            injection e with e
            injection e with e2 e3
            subst e2 e3
            obtain ⟨a0, a1, a2, a3, a4, a5⟩ := hc1 (k + 1) a ha
            have zj0 : (0 : Int) ≤ ((k + 1 : Nat) : Int) := by omega
            have zj1 : ((k + 1 : Nat) : Int) < L := by omega
            have zj2 : ¬ ((L : Int) ≤ ((k + 1 : Nat) : Int)) := by omega
            have HAA := Lib.hid ha
            clear hc1 ha
            obtain ⟨akd, x, af, afr, aen, abl⟩ := a
            dsimp only at a0 a1 a2 a3 a4 a5
            by_cases hak : akd = 1
            · subst hak
              have HJ := Lib.hid hj
              clear a2 a3 a4 a5
              have hAs := HA.out.size
              have hal2 := HAL.out
              obtain ⟨b0, b1, -, -, -, -⟩ := box6_cells hal2
              have f0 : WA.frozen? ⟨V.heap.size, 0, none⟩ = false := Lib.frozen_of_heap hal2 0
              have f1 : WA.frozen? ⟨V.heap.size, 1, none⟩ = false := Lib.frozen_of_heap hal2 1
              have hB4 : Below V.heap.size V ((WA.setCell ⟨V.heap.size, 0, none⟩ (.int .i64 2)).setCell ⟨V.heap.size, 1, none⟩ (.string ⟨#[48]⟩)) := (HA.out.setCell (Nat.le_refl _) _).setCell (Nat.le_refl _) _
              have hb4 : ((WA.setCell ⟨V.heap.size, 0, none⟩ (.int .i64 2)).setCell ⟨V.heap.size, 1, none⟩ (.string ⟨#[48]⟩)).heap[V.heap.size]? = some (.cells #[.int .i64 2, .string (if Ie.has (ns.take 0) x then Ie.B1 else Ie.B0), .int .i64 tf, .int .i64 fr, .int .i64 en, .bool bl] 54 (0, 0)) := by
                simp [World.setCell, Array.getElem?_modify, hal2, Ie.has, Ie.B0]
              have HB4 := Lib.hid hB4
              have HBB4 := Lib.hid hb4
              clear hal2 hB4 hb4 d0 d1 d2 d3 d4 d5 hj
              go_wp2_with fail
              go_loopw [11] (fun vi WW => ∃ i : Nat, vi = .int .i64 i ∧ i ≤ n ∧ WW.heap[V.heap.size]? = some (.cells #[.int .i64 2, .string (if Ie.has (ns.take i) x then Ie.B1 else Ie.B0), .int .i64 tf, .int .i64 fr, .int .i64 en, .bool bl] 54 (0, 0)) ∧ Below V.heap.size V WW) (fun vi _ => n - (intOf vi).toNat)
              case atStart => exact ⟨0, rfl, Nat.zero_le _, HBB4.out, HB4.out⟩
              case round =>
                obtain ⟨i, rfl, hi9, hb, hB⟩ := hrel
                obtain ⟨b0, b1, b2, b3, b4, b5⟩ := box6_cells hb
                have hWb := Below.then HD.out.bl hB
                have f1 : wr.frozen? ⟨V.heap.size, 1, none⟩ = false := Lib.frozen_of_heap hb 1
                by_cases hlt9 : i < n
                · obtain ⟨y, hy⟩ : ∃ y, ns[i]? = some y := ⟨_, List.getElem?_eq_getElem (by rw [← HN.out]; exact hlt9)⟩
                  obtain ⟨ad', cap', e, -, -, h3⟩ := HU.out.below hWb
                  injection e with e1' e2' e3'
                  subst e1'
                  obtain ⟨ng, no, rfl, c0⟩ := h3 i y hy
                  have c1 : wr.cell? ⟨g, og + (k + 1) * 6 + 1, none⟩ = some (.string x) := by
                    obtain ⟨g', o', e, -, -, -, -, hc1⟩ := (HV.out.below hWb).cells (by rw [← HL.out]; omega)
                    injection e with e
                    injection e with e2 e3
                    subst e2 e3
                    exact (hc1 (k + 1) _ HAA.out).2.1
                  have hht := Ie.has_take (x := x) hy
                  have zi0 : (0 : Int) ≤ i := by omega
                  have zi1 : (i : Int) < n := by omega
                  have HB := Lib.hid hB
                  have HBX := Lib.hid hb
                  clear h3 e2' e3' hy hB hb hWb b0 b2 b3 b4 b5
                  by_cases hyx : y = x
                  · have ey : (y.toList == x.toList) = true := by rw [ba_beq]; exact decide_eq_true hyx
                    rw [decide_eq_true hyx, Bool.or_true] at hht
                    have HHT := Lib.hid hht
                    clear hht hyx
                    go_wp2_with fail
                    go_quiet (fail)
                    go_wp2_with fail
                    go_roundw
                    case rel =>
                      refine ⟨i + 1, by go_num, by omega, ?_, ?_⟩
                      · rw [HHT.out]
                        have := HBX.out
                        simp [World.setCell, Array.getElem?_modify, this, Ie.B1]
                      · exact (below_drewN HB.out _).setCell (Nat.le_refl _) _
                    case measure => simp [intOf]; omega
                  · have ey : (y.toList == x.toList) = false := lit_ne hyx
                    rw [decide_eq_false hyx, Bool.or_false] at hht
                    have HHT := Lib.hid hht
                    clear hht hyx
                    go_wp2_with fail
                    go_quiet (fail)
                    go_wp2_with fail
                    go_roundw
                    case rel =>
                      refine ⟨i + 1, by go_num, by omega, ?_, ?_⟩
                      · rw [HHT.out]
                        exact HBX.out
                      · exact below_drewN HB.out _
                    case measure => simp [intOf]; omega
                · obtain rfl : i = n := by omega
                  rw [List.take_of_length_le (by rw [← HN.out]; exact Nat.le_refl _)] at b1
                  have htold : Ie.told ns ⟨1, tx, tf, fr, en, bl⟩ x = ⟨2, if Ie.has ns x then Ie.B1 else Ie.B0, tf, fr, en, bl⟩ := rfl
                  obtain ⟨X, hX⟩ : ∃ X, X = (if Ie.has ns x then Ie.B1 else Ie.B0) := ⟨_, rfl⟩
                  rw [← hX] at b1 htold
                  have hrow6 := row_below HROW.out hB
                  have h6s := hB.size
                  have HTOLD := Lib.hid htold
                  have HB6 := Lib.hid hB
                  have HROW6 := Lib.hid hrow6
                  clear hB hb hrow6 htold hX f1
                  have hask := Ie.asked_p1 HQ.out.symm HAA.out rfl
                  have HS2 := Lib.hid (show S = (Ie.defd ns f (l.drop (k + 2))).map ((acc ++ [Ie.told ns ⟨1, tx, tf, fr, en, bl⟩ x]) ++ ·) by rw [HSP.out, Ie.defd_yes HISD.out hask, List.drop_drop])
                  have HLE := Lib.hid (show k + 2 ≤ L by have := HJ.out; omega)
                  clear hask
                  go_wp2_with (at_builtin; refine wpList_append_lies _ rfl _ _ 26 rfl w.heap.size 54 i0 _ 6 56 Tryz.underlying26 hi hz0 hz1 hz2 rfl (by decide) o m cs rfl (HROW6.out.alloc _) ⟨wr.heap.size, 0, none⟩ 1 1 (kCells ⟨2, X, tf, fr, en, bl⟩) rfl rfl (World.news_of_block (cs := #[.int .i64 2, .string X, .int .i64 tf, .int .i64 fr, .int .i64 en, .bool bl]) (t := 54) (fr := (0, 0)) (heap_alloc_new wr _)) (by simp [Value.oneCell', kCells]) (by decide) (by unfold maxLen; omega) (by omega) (by simp; omega) _ rfl ?_; intro gg cap' w7 hown7 hgrow hat hlt7)
                  go_roundw
                  case rel =>
                    refine ⟨_, rfl, k + 2, acc ++ [⟨2, X, tf, fr, en, bl⟩], f, ?_, ?_⟩
                    · first | rfl | (congr 1; done) | (congr 1; omega)
                    · have hx := HD.out.add (t := ⟨2, X, tf, fr, en, bl⟩) (g := gg) (cap := cap') (m := k + 2) (f' := f) (HB6.out.alloc HB6.out.size (.cells #[.int .i64 2, .string X, .int .i64 tf, .int .i64 fr, .int .i64 en, .bool bl] 54)) (by rw [← HM.out, ← HCS.out]; exact hown7) hgrow (by omega) HLE.out (by have := HD.out.fuel; omega) (by rw [← HTOLD.out]; exact HS2.out)
                      rw [← HM.out] at hx
                      exact hx
                  case measure =>
                    have := HLE.out
                    simp [intOf]; omega
            · have hakb : (akd != 1) = true := by simpa using hak
              have HS2 := Lib.hid (show S = none by rw [HSP.out]; exact Ie.defd_none HISD.out (Ie.asked_p1n HQ.out.symm (fun a h => by rw [HAA.out] at h; cases h; exact hak)))
              go_wp2_with fail
              go_ret2
              exact ⟨_, 90, [], rfl, Ks.none_at _ _ _ (by decide), Below.then HD.out.bl HA.out, .inl ⟨HS2.out, rfl, rfl⟩⟩
          · have zj2 : ((L : Int) ≤ ((k + 1 : Nat) : Int)) := by omega
            have HS2 := Lib.hid (show S = none by rw [HSP.out]; exact Ie.defd_none HISD.out (Ie.asked_p1n HQ.out.symm (fun a h => by rw [List.getElem?_eq_none (by rw [← HL.out]; exact hj)] at h; cases h)))
            go_wp2_with fail
            go_ret2
            exact ⟨_, 90, [], rfl, Ks.none_at _ _ _ (by decide), Below.then HD.out.bl HA.out, .inl ⟨HS2.out, rfl, rfl⟩⟩
        | true =>
          rcases Nat.lt_or_ge (k + 1 + 1) L with hj | hj
          · obtain ⟨a, ha⟩ : ∃ a, l[k + 1 + 1]? = some a := ⟨_, List.getElem?_eq_getElem (by rw [← HL.out]; exact hj)⟩
            obtain ⟨g', o', e, -, -, -, -, hc1⟩ := HK1.out.cells (by rw [← HL.out]; omega)
            injection e with e
            injection e with e2 e3
            subst e2 e3
            obtain ⟨a0, a1, a2, a3, a4, a5⟩ := hc1 (k + 1 + 1) a ha
            have zj0 : (0 : Int) ≤ ((k + 1 + 1 : Nat) : Int) := by omega
            have zj1 : ((k + 1 + 1 : Nat) : Int) < L := by omega
            have zj2 : ¬ ((L : Int) ≤ ((k + 1 + 1 : Nat) : Int)) := by omega
            have HAA := Lib.hid ha
            clear hc1 ha
            obtain ⟨akd, x, af, afr, aen, abl⟩ := a
            dsimp only at a0 a1 a2 a3 a4 a5
            by_cases hak : akd = 1
            · subst hak
              have HJ := Lib.hid hj
              clear a2 a3 a4 a5
              have hAs := HA.out.size
              have hal2 := HAL.out
              obtain ⟨b0, b1, -, -, -, -⟩ := box6_cells hal2
              have f0 : WA.frozen? ⟨V.heap.size, 0, none⟩ = false := Lib.frozen_of_heap hal2 0
              have f1 : WA.frozen? ⟨V.heap.size, 1, none⟩ = false := Lib.frozen_of_heap hal2 1
              have hB4 : Below V.heap.size V ((WA.setCell ⟨V.heap.size, 0, none⟩ (.int .i64 2)).setCell ⟨V.heap.size, 1, none⟩ (.string ⟨#[48]⟩)) := (HA.out.setCell (Nat.le_refl _) _).setCell (Nat.le_refl _) _
              have hb4 : ((WA.setCell ⟨V.heap.size, 0, none⟩ (.int .i64 2)).setCell ⟨V.heap.size, 1, none⟩ (.string ⟨#[48]⟩)).heap[V.heap.size]? = some (.cells #[.int .i64 2, .string (if Ie.has (ns.take 0) x then Ie.B1 else Ie.B0), .int .i64 tf, .int .i64 fr, .int .i64 en, .bool bl] 54 (0, 0)) := by
                simp [World.setCell, Array.getElem?_modify, hal2, Ie.has, Ie.B0]
              have HB4 := Lib.hid hB4
              have HBB4 := Lib.hid hb4
              clear hal2 hB4 hb4 d0 d1 d2 d3 d4 d5 hj
              go_wp2_with fail
              go_loopw [11] (fun vi WW => ∃ i : Nat, vi = .int .i64 i ∧ i ≤ n ∧ WW.heap[V.heap.size]? = some (.cells #[.int .i64 2, .string (if Ie.has (ns.take i) x then Ie.B1 else Ie.B0), .int .i64 tf, .int .i64 fr, .int .i64 en, .bool bl] 54 (0, 0)) ∧ Below V.heap.size V WW) (fun vi _ => n - (intOf vi).toNat)
              case atStart => exact ⟨0, rfl, Nat.zero_le _, HBB4.out, HB4.out⟩
              case round =>
                obtain ⟨i, rfl, hi9, hb, hB⟩ := hrel
                obtain ⟨b0, b1, b2, b3, b4, b5⟩ := box6_cells hb
                have hWb := Below.then HD.out.bl hB
                have f1 : wr.frozen? ⟨V.heap.size, 1, none⟩ = false := Lib.frozen_of_heap hb 1
                by_cases hlt9 : i < n
                · obtain ⟨y, hy⟩ : ∃ y, ns[i]? = some y := ⟨_, List.getElem?_eq_getElem (by rw [← HN.out]; exact hlt9)⟩
                  obtain ⟨ad', cap', e, -, -, h3⟩ := HU.out.below hWb
                  injection e with e1' e2' e3'
                  subst e1'
                  obtain ⟨ng, no, rfl, c0⟩ := h3 i y hy
                  have c1 : wr.cell? ⟨g, og + (k + 1 + 1) * 6 + 1, none⟩ = some (.string x) := by
                    obtain ⟨g', o', e, -, -, -, -, hc1⟩ := (HV.out.below hWb).cells (by rw [← HL.out]; omega)
                    injection e with e
                    injection e with e2 e3
                    subst e2 e3
                    exact (hc1 (k + 1 + 1) _ HAA.out).2.1
                  have hht := Ie.has_take (x := x) hy
                  have zi0 : (0 : Int) ≤ i := by omega
                  have zi1 : (i : Int) < n := by omega
                  have HB := Lib.hid hB
                  have HBX := Lib.hid hb
                  clear h3 e2' e3' hy hB hb hWb b0 b2 b3 b4 b5
                  by_cases hyx : y = x
                  · have ey : (y.toList == x.toList) = true := by rw [ba_beq]; exact decide_eq_true hyx
                    rw [decide_eq_true hyx, Bool.or_true] at hht
                    have HHT := Lib.hid hht
                    clear hht hyx
                    go_wp2_with fail
                    go_quiet (fail)
                    go_wp2_with fail
                    go_roundw
                    case rel =>
                      refine ⟨i + 1, by go_num, by omega, ?_, ?_⟩
                      · rw [HHT.out]
                        have := HBX.out
                        simp [World.setCell, Array.getElem?_modify, this, Ie.B1]
                      · exact (below_drewN HB.out _).setCell (Nat.le_refl _) _
                    case measure => simp [intOf]; omega
                  · have ey : (y.toList == x.toList) = false := lit_ne hyx
                    rw [decide_eq_false hyx, Bool.or_false] at hht
                    have HHT := Lib.hid hht
                    clear hht hyx
                    go_wp2_with fail
                    go_quiet (fail)
                    go_wp2_with fail
                    go_roundw
                    case rel =>
                      refine ⟨i + 1, by go_num, by omega, ?_, ?_⟩
                      · rw [HHT.out]
                        exact HBX.out
                      · exact below_drewN HB.out _
                    case measure => simp [intOf]; omega
                · obtain rfl : i = n := by omega
                  rw [List.take_of_length_le (by rw [← HN.out]; exact Nat.le_refl _)] at b1
                  have htold : Ie.told ns ⟨1, tx, tf, fr, en, bl⟩ x = ⟨2, if Ie.has ns x then Ie.B1 else Ie.B0, tf, fr, en, bl⟩ := rfl
                  obtain ⟨X, hX⟩ : ∃ X, X = (if Ie.has ns x then Ie.B1 else Ie.B0) := ⟨_, rfl⟩
                  rw [← hX] at b1 htold
                  have hrow6 := row_below HROW.out hB
                  have h6s := hB.size
                  have HTOLD := Lib.hid htold
                  have HB6 := Lib.hid hB
                  have HROW6 := Lib.hid hrow6
                  clear hB hb hrow6 htold hX f1
                  have I2 := Lib.hid (ris9_any _ l (k + 1 + 1 + 1) Ie.sRp wr (HV.out.below (Below.then HD.out.bl HB6.out)) (by rw [← HL.out]; exact hL1))
                  obtain ⟨q2, hq2⟩ : ∃ q, q = Ie.isAt l (k + 1 + 1 + 1) Ie.sRp := ⟨_, rfl⟩
                  rw [← hq2] at I2
                  have HQ2 := Lib.hid hq2
                  clear hq2
                  go_wp2_with fail
                  rw [show ((k : Int) + 1 + 1 + 1) = ((k + 1 + 1 + 1 : Nat) : Int) by omega]
                  refine I2.out.mono ?_
                  rintro en4 w5 ⟨rfl, hw5⟩
                  rw [hw5]
                  clear hw5
                  cases q2 with
                  | false =>
                    have HS2 := Lib.hid (show S = none by rw [HSP.out]; exact Ie.defd_none HISD.out (Ie.asked_p2n HQ.out.symm (.inr HQ2.out.symm)))
                    go_wp2_with fail
                    go_ret2
                    exact ⟨_, 90, [], rfl, Ks.none_at _ _ _ (by decide), Below.then HD.out.bl HB6.out, .inl ⟨HS2.out, rfl, rfl⟩⟩
                  | true =>
                    have hask := Ie.asked_p2 (j := k + 1) HQ.out.symm HAA.out rfl HQ2.out.symm
                    have HS2 := Lib.hid (show S = (Ie.defd ns f (l.drop (k + 4))).map ((acc ++ [Ie.told ns ⟨1, tx, tf, fr, en, bl⟩ x]) ++ ·) by rw [HSP.out, Ie.defd_yes HISD.out hask, List.drop_drop])
                    have HLE := Lib.hid (show k + 4 ≤ L by
                      have h1 := HQ2.out
                      unfold Ie.isAt at h1
                      cases hc : l[k + 1 + 1 + 1]? with
                      | none => rw [hc] at h1; cases h1
                      | some c =>
                        have := (List.getElem?_eq_some_iff.1 hc).1
                        rw [← HL.out] at this
                        omega)
                    clear hask
                    go_wp2_with (at_builtin; refine wpList_append_lies _ rfl _ _ 26 rfl w.heap.size 54 i0 _ 6 56 Tryz.underlying26 hi hz0 hz1 hz2 rfl (by decide) o m cs rfl (HROW6.out.alloc _) ⟨wr.heap.size, 0, none⟩ 1 1 (kCells ⟨2, X, tf, fr, en, bl⟩) rfl rfl (World.news_of_block (cs := #[.int .i64 2, .string X, .int .i64 tf, .int .i64 fr, .int .i64 en, .bool bl]) (t := 54) (fr := (0, 0)) (heap_alloc_new wr _)) (by simp [Value.oneCell', kCells]) (by decide) (by unfold maxLen; omega) (by omega) (by simp; omega) _ rfl ?_; intro gg cap' w7 hown7 hgrow hat hlt7)
                    go_roundw
                    case rel =>
                      refine ⟨_, rfl, k + 4, acc ++ [⟨2, X, tf, fr, en, bl⟩], f, ?_, ?_⟩
                      · first | rfl | (congr 1; done) | (congr 1; omega)
                      · have hx := HD.out.add (t := ⟨2, X, tf, fr, en, bl⟩) (g := gg) (cap := cap') (m := k + 4) (f' := f) (HB6.out.alloc HB6.out.size (.cells #[.int .i64 2, .string X, .int .i64 tf, .int .i64 fr, .int .i64 en, .bool bl] 54)) (by rw [← HM.out, ← HCS.out]; exact hown7) hgrow (by omega) HLE.out (by have := HD.out.fuel; omega) (by rw [← HTOLD.out]; exact HS2.out)
                        rw [← HM.out] at hx
                        exact hx
                    case measure =>
                      have := HLE.out
                      simp [intOf]; omega
            · have hakb : (akd != 1) = true := by simpa using hak
              have HS2 := Lib.hid (show S = none by rw [HSP.out]; exact Ie.defd_none HISD.out (Ie.asked_p2n HQ.out.symm (.inl fun a h => by rw [HAA.out] at h; cases h; exact hak)))
              go_wp2_with fail
              go_ret2
              exact ⟨_, 90, [], rfl, Ks.none_at _ _ _ (by decide), Below.then HD.out.bl HA.out, .inl ⟨HS2.out, rfl, rfl⟩⟩
          · have zj2 : ((L : Int) ≤ ((k + 1 + 1 : Nat) : Int)) := by omega
            have HS2 := Lib.hid (show S = none by rw [HSP.out]; exact Ie.defd_none HISD.out (Ie.asked_p2n HQ.out.symm (.inl fun a h => by rw [List.getElem?_eq_none (by rw [← HL.out]; exact hj)] at h; cases h)))
            go_wp2_with fail
            go_ret2
            exact ⟨_, 90, [], rfl, Ks.none_at _ _ _ (by decide), Below.then HD.out.bl HA.out, .inl ⟨HS2.out, rfl, rfl⟩⟩
      · have hisd : Ie.isDef t = false := isDef_no hdf
        have hS2 : S = (Ie.defd ns f (l.drop (k + 1))).map ((acc ++ [t]) ++ ·) := by rw [HSP.out, Ie.defd_no hisd]
        have HS2 := Lib.hid hS2
        have hA : Below V.heap.size V (V.alloc (.cells #[.int .i64 t.kind, .string t.text, .int .i64 t.file, .int .i64 t.fr, .int .i64 t.en, .bool t.bl] 54)) := Below.alloc (Below.refl _ _) (Nat.le_refl _) _
        have hA2 := hA.alloc hA.size (.cells #[.int .i64 t.kind, .string t.text, .int .i64 t.file, .int .i64 t.fr, .int .i64 t.en, .bool t.bl] 54)
        have HA2 := Lib.hid hA2
        have hcases : (t.kind = 1 ∧ ¬ t.text = Ie.DEF) ∨ ¬ t.kind = 1 := by
          by_cases h1 : t.kind = 1
          · exact .inl ⟨h1, fun h2 => hdf ⟨h1, h2⟩⟩
          · exact .inr h1
        obtain ⟨kd, tx, tf, fr, en, bl⟩ := t
        dsimp only at d0 d1 d2 d3 d4 d5 hcases HA2 hA
        clear hisd hS2 hdf hA hA2 HSP
        rcases hcases with ⟨hkd, htx⟩ | hkd
        · have e1 : (tx.toList == [100, 101, 102, 105, 110, 101, 100]) = false := lit_no htx
          subst hkd
          clear htx
          go_wp2_with (at_builtin; refine wpList_append_lies _ rfl _ _ 26 rfl w.heap.size 54 i0 _ 6 56 Tryz.underlying26 hi hz0 hz1 hz2 rfl (by decide) o m cs rfl ((HROW.out.alloc _).alloc _) ⟨V.heap.size + 1, 0, none⟩ 1 1 (kCells ⟨1, tx, tf, fr, en, bl⟩) rfl rfl (World.news_of_block (cs := #[.int .i64 1, .string tx, .int .i64 tf, .int .i64 fr, .int .i64 en, .bool bl]) (t := 54) (fr := (0, 0)) (heap_alloc2 V _ _)) (by simp [Value.oneCell', kCells]) (by decide) (by unfold maxLen; omega) (by omega) (by simp; omega) _ rfl ?_; intro gg cap' w7 hown7 hgrow hat hlt7)
          go_roundw
          case rel =>
            refine ⟨_, rfl, k + 1, acc ++ [⟨1, tx, tf, fr, en, bl⟩], f, by go_num, ?_⟩
            have hx := HD.out.add (t := ⟨1, tx, tf, fr, en, bl⟩) (g := gg) (cap := cap') (m := k + 1) (f' := f) HA2.out (by rw [← HM.out, ← HCS.out]; exact hown7) hgrow (by omega) (by omega) (by have := HD.out.fuel; omega) HS2.out
            rw [← HM.out] at hx
            exact hx
          case measure => simp [intOf]; omega
        ·
          go_wp2_with (at_builtin; refine wpList_append_lies _ rfl _ _ 26 rfl w.heap.size 54 i0 _ 6 56 Tryz.underlying26 hi hz0 hz1 hz2 rfl (by decide) o m cs rfl ((HROW.out.alloc _).alloc _) ⟨V.heap.size + 1, 0, none⟩ 1 1 (kCells ⟨kd, tx, tf, fr, en, bl⟩) rfl rfl (World.news_of_block (cs := #[.int .i64 kd, .string tx, .int .i64 tf, .int .i64 fr, .int .i64 en, .bool bl]) (t := 54) (fr := (0, 0)) (heap_alloc2 V _ _)) (by simp [Value.oneCell', kCells]) (by decide) (by unfold maxLen; omega) (by omega) (by simp; omega) _ rfl ?_; intro gg cap' w7 hown7 hgrow hat hlt7)
          go_roundw
          case rel =>
            refine ⟨_, rfl, k + 1, acc ++ [⟨kd, tx, tf, fr, en, bl⟩], f, by go_num, ?_⟩
            have hx := HD.out.add (t := ⟨kd, tx, tf, fr, en, bl⟩) (g := gg) (cap := cap') (m := k + 1) (f' := f) HA2.out (by rw [← HM.out, ← HCS.out]; exact hown7) hgrow (by omega) (by omega) (by have := HD.out.fuel; omega) HS2.out
            rw [← HM.out] at hx
            exact hx
          case measure => simp [intOf]; omega
    · obtain rfl : k = L := by have := hD.le; omega
      have hS2 : S = some acc := by
        rw [hD.spec, List.drop_eq_nil_of_le (by rw [← HL.out]; exact Nat.le_refl _)]
        exact Ie.defd_end ns f acc
      have hKs := Ks.of_row (base := w.heap.size) hD.row
      have HF := Lib.hid (And.intro hKs (And.intro hD.bl hS2))
      clear hD hS2 hKs
      go_wp2_with fail
      go_ret2
      exact ⟨_, 0, acc, rfl, HF.out.1, HF.out.2.1, .inr ⟨HF.out.2.2, rfl⟩⟩
end Go.Proofs.YtognifnalfjdgaaGreatDoor

/- What is proved: what the document's own Same and Alike tell of tokens. -/
namespace Go.Proofs.YtognifnalfjdgaaGreatDoor
open Go.RowKit Go.Shelf
open Lx (T)

set_option maxRecDepth 100000 in
set_option maxHeartbeats 4000000 in
theorem same_any (v u : Value) (f : Int) (ts : List T) (w : World) (hv : Toks w v f ts) (hu : Toks w u f ts) (hl : ts.length ≤ 1000000000) :
    Calls Tryz.prog 19 #[v, u] w fun e w' => e = .returned (.bool true) ∧ Below w.heap.size w w' := by
  obtain ⟨ad, cap, rfl, -⟩ := id hv
  obtain ⟨ad', cap', rfl, -⟩ := id hu
  rcases Nat.eq_zero_or_pos ts.length with h0 | hpos
  · obtain rfl : ts = [] := List.length_eq_zero_iff.1 h0
    clear hv hu
    go_enter Tryz.func19, Tryz.ntmps19
    go_wp2_with fail
    go_loop [5] (fun i => i = .int .i64 0) (fun _ => 0)
    case atStart => exact rfl
    case round =>
      obtain rfl := hrel
      go_wp2_with fail
      go_ret
      exact ⟨rfl, Below.refl _ _⟩
  · obtain ⟨g, o, rfl, -, hcap, hmax, hg, hc⟩ := hv.cells hpos
    obtain ⟨g', o', rfl, -, hcap', hmax', hg', hc'⟩ := hu.cells hpos
    unfold maxLen at hmax hmax'
    obtain ⟨n, hn⟩ : ∃ n, n = ts.length := ⟨_, rfl⟩
    rw [← hn] at hl hcap hpos hcap'
    rw [← hn]
    have Hn := Lib.hid hn
    have HC := Lib.hid hc
    have HC' := Lib.hid hc'
    clear hn hc hc' hv hu
    go_enter Tryz.func19, Tryz.ntmps19
    go_wp2_with fail
    go_loopw [5] (fun i wr => ∃ k : Nat, i = .int .i64 k ∧ k ≤ n ∧ Below w.heap.size w wr) (fun i _ => n - (intOf i).toNat)
    case atStart => exact ⟨0, rfl, Nat.zero_le _, Below.refl _ _⟩
    case round =>
      obtain ⟨k, rfl, hk, hB⟩ := hrel
      have hsB := hB.size
      by_cases hlt : k < n
      · obtain ⟨t, ht⟩ : ∃ t, ts[k]? = some t := ⟨_, List.getElem?_eq_getElem (by rw [← Hn.out]; exact hlt)⟩
        obtain ⟨d0, d1, d2, d3, d4, d5⟩ := (HC.out k t ht).below hB hg
        obtain ⟨x0, x1, x2, x3, x4, x5⟩ := (HC'.out k t ht).below hB hg'
        obtain ⟨tx, htx⟩ : ∃ tx : ByteArray, tx = ⟨t.text.toArray⟩ := ⟨_, rfl⟩
        rw [← htx] at d1 x1
        have hq : ∀ W, (Op.equalIn 10000 54 (.agg #[.int .i64 t.kind, .string tx, .int .i64 f, .int .i64 t.fr, .int .i64 t.to, .bool t.bl]) (.agg #[.int .i64 t.kind, .string tx, .int .i64 f, .int .i64 t.fr, .int .i64 t.to, .bool t.bl])).run Tryz.prog W = .ok true W := fun W => run_sameTok _ _ _ _ _ _ W
        have z1 : (0 : Int) ≤ k := by omega
        have z2 : (k : Int) < n := by omega
        clear ht htx
        go_wp2_with fail
        go_quiet (fail)
        go_wp2_with fail
        go_roundw
        case rel => exact ⟨k + 1, by go_num, by omega, below_drewN hB _⟩
        case measure => simp [intOf]; omega
      · go_wp2_with fail
        go_ret
        exact ⟨rfl, hB⟩

end Go.Proofs.YtognifnalfjdgaaGreatDoor

/- What is proved: lists of the same tokens are the same by the document. -/
namespace Go.Proofs.YtognifnalfjdgaaGreatDoor
open Go.RowKit Go.Shelf

set_option maxRecDepth 100000 in
set_option maxHeartbeats 4000000 in
theorem sameK_any (v u : Value) (l : List K) (w : World) (hv : Ks w v l) (hu : Ks w u l) (hl : l.length ≤ 1000000000) :
    Calls Tryz.prog 19 #[v, u] w (TruePost w) := by
  obtain ⟨ad, cap, rfl, -⟩ := id hv
  obtain ⟨bd, dap, rfl, -⟩ := id hu
  rcases Nat.eq_zero_or_pos l.length with h0 | hpos
  · obtain rfl : l = [] := List.length_eq_zero_iff.1 h0
    clear hv hu
    go_enter Tryz.func19, Tryz.ntmps19
    go_wp2_with fail
    go_loop [5] (fun i => i = .int .i64 0) (fun _ => 0)
    case atStart => exact rfl
    case round =>
      obtain rfl := hrel
      go_wp2_with fail
      go_ret
      exact ⟨rfl, Below.refl _ _⟩
  · obtain ⟨g, o, rfl, -, hcap, hmax, hg, hc⟩ := hv.cells hpos
    obtain ⟨g', o', rfl, -, hcap', hmax', hg', hc'⟩ := hu.cells hpos
    unfold maxLen at hmax hmax'
    obtain ⟨n, hn⟩ : ∃ n, n = l.length := ⟨_, rfl⟩
    rw [← hn] at hl hcap hpos hcap'
    rw [← hn]
    have Hn := Lib.hid hn
    have HC := Lib.hid hc
    have HC' := Lib.hid hc'
    clear hn hc hc' hv hu
    go_enter Tryz.func19, Tryz.ntmps19
    go_wp2_with fail
    go_loopw [5] (fun i wr => ∃ k : Nat, i = .int .i64 k ∧ k ≤ n ∧ Below w.heap.size w wr) (fun i _ => n - (intOf i).toNat)
    case atStart => exact ⟨0, rfl, Nat.zero_le _, Below.refl _ _⟩
    case round =>
      obtain ⟨k, rfl, hk, hB⟩ := hrel
      have hsB := hB.size
      by_cases hlt : k < n
      · obtain ⟨t, ht⟩ : ∃ t, l[k]? = some t := ⟨_, List.getElem?_eq_getElem (by rw [← Hn.out]; exact hlt)⟩
        obtain ⟨d0, d1, d2, d3, d4, d5⟩ := (HC.out k t ht).below hB hg
        obtain ⟨x0, x1, x2, x3, x4, x5⟩ := (HC'.out k t ht).below hB hg'
        have hq : ∀ W, (Op.equalIn 10000 54 (.agg #[.int .i64 t.kind, .string t.text, .int .i64 t.file, .int .i64 t.fr, .int .i64 t.en, .bool t.bl]) (.agg #[.int .i64 t.kind, .string t.text, .int .i64 t.file, .int .i64 t.fr, .int .i64 t.en, .bool t.bl])).run Tryz.prog W = .ok true W := fun W => run_sameTok _ _ _ _ _ _ W
        have z1 : (0 : Int) ≤ k := by omega
        have z2 : (k : Int) < n := by omega
        clear ht
        go_wp2_with fail
        go_quiet (fail)
        go_wp2_with fail
        go_roundw
        case rel => exact ⟨k + 1, by go_num, by omega, below_drewN hB _⟩
        case measure => simp [intOf]; omega
      · go_wp2_with fail
        go_ret
        exact ⟨rfl, hB⟩
end Go.Proofs.YtognifnalfjdgaaGreatDoor

/- The document's own Tokens, what tpl8 had left out. -/
namespace Go.Proofs.YtognifnalfjdgaaGreatDoor
open Go.RowKit Go.Shelf
open Lx (T)
set_option maxRecDepth 100000 in
set_option maxHeartbeats 1000000 in
theorem refjoin_row (s : ByteArray) (hs : s.size ≤ 4000000000) (w : World) :
    Calls Tryz.prog 31 #[.string s] w fun e W' => ∃ v, e = .returned v ∧ W'.ownsRow w.heap.size 52 2 v (Sp.left 0 s.data.toList).length (cellsC (Sp.left 0 s.data.toList)) ∧ Below w.heap.size w W' := by
  obtain ⟨i0, hi, hz0, hz1, hz2⟩ := info_parts info37
  have hfull := Sp.left_le 0 s.data.toList
  rw [size_list] at hfull
  go_enter Tryz.func31, Tryz.ntmps31
  go_wp2_with fail
  go_loopw [3, 4] (fun v i wr => ∃ (k : Nat) (pre : List Sp.Ch), i = .int .i64 k ∧ Split s.data.toList k pre ∧ wr.ownsRow w.heap.size 52 2 v pre.length (cellsC pre) ∧ Below w.heap.size w wr) (fun _ i _ => s.size - (intOf i).toNat)
  case atStart => exact ⟨0, [], rfl, split_start _, World.ownsRow_nil _ _ _ _, Below.refl _ _⟩
  case round =>
    obtain ⟨k, pre, rfl, hsp, hrow, hB⟩ := hrel
    have hsB := hB.size
    have hkl := hsp.1
    rw [size_list] at hkl
    by_cases hlt : k < s.size
    · have hlt' : k < s.data.toList.length := by rw [size_list]; exact hlt
      cases hp : Lib.hasPrefix (s.data.toList.drop k) [92, 10] with
      | true =>
        obtain ⟨h2, hsp2⟩ := split_pair hsp hp
        rw [size_list] at h2
        obtain ⟨q1, q2⟩ := (pair_at s k (by omega)).1 hp
        have e1 : ((s[k].toNat : Int) == 92) = true := by rw [q1]; rfl
        have e2 : ((s[k + 1].toNat : Int) == 10) = true := by rw [q2]; rfl
        have e3 : k + 1 < s.size := by omega
        clear hp q1 q2
        go_wp2_with fail
        go_roundw
        case rel => exact ⟨k + 2, pre, by go_num, hsp2, hrow, hB⟩
        case measure => simp [intOf]; omega
      | false =>
        obtain ⟨hsp2, hpre, hlen⟩ := split_one hsp hlt' hp
        rw [byte_at s k hlt] at hsp2
        have hcase : ((s[k].toNat : Int) == 92) = false ∨ (((s[k].toNat : Int) == 92) = true ∧ ¬ k + 1 < s.size) ∨ (∃ h : k + 1 < s.size, ((s[k].toNat : Int) == 92) = true ∧ ((s[k + 1].toNat : Int) == 10) = false) := by
          have t1 : ((s[k].toNat : Int) == 92) = decide (s[k] = 92) := toNat_eq s[k] 92 (by decide)
          by_cases e1 : s[k] = 92
          · by_cases e2 : k + 1 < s.size
            · have t2 : ((s[k + 1].toNat : Int) == 10) = decide (s[k + 1] = 10) := toNat_eq s[k + 1] 10 (by decide)
              have e3 : ¬ s[k + 1] = 10 := fun e3 => by rw [(pair_at s k e2).2 ⟨e1, e3⟩] at hp; cases hp
              exact .inr (.inr ⟨e2, by rw [t1, decide_eq_true e1], by rw [t2, decide_eq_false e3]⟩)
            · exact .inr (.inl ⟨by rw [t1, decide_eq_true e1], e2⟩)
          · exact .inl (by rw [t1, decide_eq_false e1])
        clear hp hpre
        rcases hcase with e1 | ⟨e1, e2⟩ | ⟨e2, e1, e3⟩
        all_goals
          go_wp2_with (at_builtin; refine wpList_append_own _ rfl _ _ 45 rfl w.heap.size 52 i0 (.agg #[.int .u8 0, .int .i64 0]) 2 16 Tryz.underlying45 hi hz0 hz1 hz2 rfl (by decide) _ _ _ rfl (hrow.alloc _) ⟨wr.heap.size, 0, none⟩ 1 1 [.int .u8 s[k].toNat, .int .i64 k] rfl rfl (cell_two_new _ _ _ _) (by simp [Value.oneCell']) (by unfold maxLen; omega) (by omega) (by simp; omega) ?_; intro v' w2 hown' hgrow _; obtain ⟨g', cap', rfl⟩ := ownsRow_succ hown')
          go_roundw
          case rel =>
            refine ⟨k + 1, pre ++ [(s[k], k)], by go_num, hsp2, ?_, ?_⟩
            · rw [List.length_append, cellsC_append]; exact hown'
            · exact (hB.alloc hsB _).grown hgrow (by simp; omega) (fun j ej => (hrow.lt j ej).1)
          case measure => simp [intOf]; omega
    · have he := split_end hsp (by rw [size_list]; omega)
      go_wp2_with fail
      go_ret
      rw [← he]
      exact ⟨_, rfl, hrow, hB⟩

theorem refjoin_any (s : ByteArray) (hs : s.size ≤ 4000000000) (w : World) : Calls Tryz.prog 31 #[.string s] w (JoinPost w s.data.toList) :=
  (refjoin_row s hs w).mono fun _ _ ⟨v, h1, h2, h3⟩ => ⟨v, h1, Chars.of_row h2, h3⟩
set_option maxRecDepth 100000 in
set_option maxHeartbeats 1000000 in
theorem reftext_any (v : Value) (l : List Sp.Ch) (w : World) (hv : Chars w v l) (hl : l.length ≤ 4000000000) :
    Calls Tryz.prog 32 #[v] w fun e w' => e = .returned (.string ⟨(l.map Prod.fst).toArray⟩) ∧ Below w.heap.size w w' := by
  obtain ⟨ad, cap, rfl, -⟩ := id hv
  rcases Nat.eq_zero_or_pos l.length with h0 | hpos
  · obtain rfl : l = [] := List.length_eq_zero_iff.1 h0
    clear hv
    go_enter Tryz.func32, Tryz.ntmps32
    go_wp2_with fail
    go_loop [3, 4] (fun t i => t = .string ⟨#[]⟩ ∧ i = .int .i64 0) (fun _ _ => 0)
    case atStart => exact ⟨rfl, rfl⟩
    case round =>
      obtain ⟨rfl, rfl⟩ := hrel
      go_wp2_with fail
      go_ret
      exact ⟨rfl, Below.refl _ _⟩
  · obtain ⟨g, o, rfl, _, hcap, hmax, hg, hc⟩ := hv.cells hpos
    unfold maxLen at hmax
    obtain ⟨n, hn⟩ : ∃ n, n = l.length := ⟨_, rfl⟩
    rw [← hn] at hl hcap hpos
    rw [← hn]
    have Hn := Lib.hid hn
    have HC := Lib.hid hc
    clear hn hc hv
    go_enter Tryz.func32, Tryz.ntmps32
    go_wp2_with fail
    go_loopw [3, 4] (fun t i wr => ∃ (k : Nat) (acc : List UInt8), i = .int .i64 k ∧ t = .string ⟨acc.toArray⟩ ∧ acc = (l.map Prod.fst).take k ∧ k ≤ n ∧ Below w.heap.size w wr) (fun _ i _ => n - (intOf i).toNat)
    case atStart => exact ⟨0, [], rfl, rfl, rfl, Nat.zero_le _, Below.refl _ _⟩
    case round =>
      obtain ⟨k, acc, rfl, rfl, ha, hk, hB⟩ := hrel
      have hsB := hB.size
      have hlen : acc.length ≤ k := by rw [ha]; simp; omega
      have HA := Lib.hid ha
      clear ha
      by_cases hlt : k < n
      · obtain ⟨x, hx⟩ : ∃ x, l[k]? = some x := ⟨_, List.getElem?_eq_getElem (by rw [← Hn.out]; exact hlt)⟩
        obtain ⟨c0, c1⟩ := HC.out k x hx
        have d0 : wr.cell? ⟨g, o + k * 2, none⟩ = some (.int .u8 x.1.toNat) := (hB.cell (p := ⟨g, o + k * 2, none⟩) hg).trans c0
        have ht : acc ++ [x.1] = (l.map Prod.fst).take (k + 1) := by
          have hx' : (l.map Prod.fst)[k]? = some x.1 := by rw [List.getElem?_map, hx]; rfl
          obtain ⟨hk2, hx2⟩ := List.getElem?_eq_some_iff.1 hx'
          rw [List.take_succ_eq_append_getElem hk2, hx2, HA.out]
        have HT := Lib.hid ht
        clear ht hx c0 c1
        have hcv := conv_one x.1 wr
        have had : ∀ W, (Op.stringOp .add ⟨acc.toArray⟩ ⟨#[x.1]⟩).run Tryz.prog W = .ok (.string ⟨(acc ++ [x.1]).toArray⟩) W := fun W => add_run acc [x.1] (by simp; omega) W
        go_wp2_with fail
        go_roundw
        case rel => exact ⟨k + 1, acc ++ [x.1], by go_num, by simp, HT.out, by omega, hB.alloc hsB _⟩
        case measure => simp [intOf]; omega
      · go_wp2_with fail
        go_ret
        refine ⟨?_, hB⟩
        have e : l.map Prod.fst = acc := by rw [HA.out, List.take_of_length_le (by rw [List.length_map, ← Hn.out]; omega)]
        rw [e]
        rfl
set_option maxHeartbeats 1000000 in
theorem rletter_any (c : UInt8) (w : World) : Calls Tryz.prog 79 #[.int .u8 c.toNat] w fun e w' => e = .returned (.bool (Lx.letter c)) ∧ w = w' := by
  have hl := letter_int c
  obtain ⟨b, hb⟩ : ∃ b, b = Lx.letter c := ⟨_, rfl⟩
  rw [← hb] at hl ⊢
  obtain ⟨n, hn⟩ : ∃ n : Int, n = c.toNat := ⟨_, rfl⟩
  rw [← hn] at hl ⊢
  have HL := Lib.hid hl
  clear hl hn hb
  go_enter Tryz.func79, Tryz.ntmps79
  go_wp2_with fail
  all_goals
    go_ret
    refine ⟨ret_bool ?_, rfl⟩
    rw [HL.out, Bool.eq_iff_iff]
    simp
    try omega

set_option maxHeartbeats 1000000 in
theorem rdigit_any (c : UInt8) (w : World) : Calls Tryz.prog 80 #[.int .u8 c.toNat] w fun e w' => e = .returned (.bool (Lx.digit c)) ∧ w = w' := by
  have hl := digit_int c
  obtain ⟨b, hb⟩ : ∃ b, b = Lx.digit c := ⟨_, rfl⟩
  rw [← hb] at hl ⊢
  obtain ⟨n, hn⟩ : ∃ n : Int, n = c.toNat := ⟨_, rfl⟩
  rw [← hn] at hl ⊢
  have HL := Lib.hid hl
  clear hl hn hb
  go_enter Tryz.func80, Tryz.ntmps80
  go_wp2_with fail
  all_goals
    go_ret
    refine ⟨ret_bool ?_, rfl⟩
    rw [HL.out, Bool.eq_iff_iff]
    simp
    try omega

end Go.Proofs.YtognifnalfjdgaaGreatDoor

/- The document's own Tokens, what tpl8 had left out. -/
namespace Go.Proofs.YtognifnalfjdgaaGreatDoor
open Go.RowKit Go.Shelf
open Lx (T)
set_option maxHeartbeats 1000000 in
theorem is_any (s p : ByteArray) (i : Nat) (hs : s.size ≤ 4000000000) (hi : i ≤ s.size) (hp : p.size ≤ 100) (hp0 : 0 < p.size) (w : World) :
    Calls Tryz.prog 59 #[.string s, .int .i64 i, .string p] w fun e w' => e = .returned (.bool (p.data.toList.isPrefixOf (s.data.toList.drop i))) ∧ w = w' := by
  by_cases h : i + p.size ≤ s.size
  · have hx := is_pre s p i
    obtain ⟨b, hb⟩ : ∃ b, b = p.data.toList.isPrefixOf (s.data.toList.drop i) := ⟨_, rfl⟩
    rw [← hb] at hx ⊢
    have HL := Lib.hid hx
    clear hx hb
    go_enter Tryz.func59, Tryz.ntmps59
    go_wp2_with fail
    go_ret
    exact ⟨ret_bool (by rw [HL.out, ba_beq]), rfl⟩
  · have hx := is_short s p i h hp0
    have HL := Lib.hid hx
    clear hx
    go_enter Tryz.func59, Tryz.ntmps59
    go_wp2_with fail
    go_ret
    exact ⟨ret_bool HL.out.symm, rfl⟩

set_option maxHeartbeats 2000000 in
set_option maxRecDepth 100000 in
theorem rblank_any (s : ByteArray) (i : Nat) (hs : s.size ≤ 4000000000) (hi : i < s.size) (w : World) :
    Calls Tryz.prog 33 #[.string s, .int .i64 i] w fun e w' => e = .returned (.int .i64 ((i + Lx.blankLen (s.data.toList.drop i) : Nat) : Int)) ∧ w = w' := by
  have hd := drop_at s i hi
  have hbl : Lx.blankLen (s.data.toList.drop i) = if Lx.isBl s[i] then 1 else Lx.commentLen (s.data.toList.drop i) := by
    conv => lhs; rw [hd]
    rw [Lx.blankLen_cons, ← hd]
  obtain ⟨R, hR⟩ : ∃ R, R = i + Lx.blankLen (s.data.toList.drop i) := ⟨_, rfl⟩
  rw [← hR]
  rw [hbl] at hR
  clear hbl
  have hi2 := isBl_range s[i]
  cases hB : Lx.isBl s[i] with
  | true =>
    rw [hB] at hi2 hR
    rw [if_pos rfl] at hR
    subst hR
    have hcase : ((s[i].toNat : Int) == 32) = true ∨ (((s[i].toNat : Int) == 32) = false ∧ ((s[i].toNat : Int) == 9) = true) ∨ (((s[i].toNat : Int) == 32) = false ∧ ((s[i].toNat : Int) == 9) = false ∧ 11 ≤ (s[i].toNat : Int) ∧ (s[i].toNat : Int) ≤ 13) := by
      cases h1 : ((s[i].toNat : Int) == 32) with
      | true => exact .inl rfl
      | false =>
        cases h2 : ((s[i].toNat : Int) == 9) with
        | true => exact .inr (.inl ⟨rfl, rfl⟩)
        | false =>
          rw [h1, h2] at hi2
          simp at hi2
          exact .inr (.inr ⟨rfl, rfl, by omega, by omega⟩)
    clear hi2 hB hd
    rcases hcase with h1 | ⟨h1, h2⟩ | ⟨h1, h2, h3, h4⟩
    all_goals
      go_enter Tryz.func33, Tryz.ntmps33
      go_wp2_with fail
      go_ret
      exact ⟨ret_int (by omega), rfl⟩
  | false =>
    rw [hB] at hi2 hR
    rw [if_neg (by simp)] at hR
    have h1 : ((s[i].toNat : Int) == 32) = false := by cases h : ((s[i].toNat : Int) == 32) with | false => rfl | true => rw [h] at hi2; simp at hi2
    have h2 : ((s[i].toNat : Int) == 9) = false := by cases h : ((s[i].toNat : Int) == 9) with | false => rfl | true => rw [h] at hi2; simp at hi2
    have h3 : (s[i].toNat : Int) < 11 ∨ (11 ≤ (s[i].toNat : Int) ∧ 13 < (s[i].toNat : Int)) := by
      rw [h1, h2] at hi2
      simp at hi2
      omega
    have HR := Lib.hid hR
    clear hi2 hB hd hR
    cases hL : [47, 47].isPrefixOf (s.data.toList.drop i) with
    | true =>
      have hR2 : R = i + Lx.lineLen (s.data.toList.drop i) := by rw [HR.out, comment_line _ hL]
      have HL := Lib.hid hL
      have HR2 := Lib.hid hR2
      clear hL hR2
      rcases h3 with h3 | ⟨h3, h4⟩
      all_goals
        go_enter Tryz.func33, Tryz.ntmps33
        go_wp2_with fail
        refine (is_any s ⟨#[47, 47]⟩ i hs (by omega) (by decide) (by decide) _).mono ?_
        rintro e w' ⟨rfl, rfl⟩
        rw [show (⟨#[47, 47]⟩ : ByteArray).data.toList = [47, 47] from rfl, HL.out]
        go_wp2_with fail
        go_loop [1] (fun x => ∃ k : Nat, x = .int .i64 k ∧ k ≤ s.size ∧ R = k + Lx.lineLen (s.data.toList.drop k)) (fun x => s.size - (intOf x).toNat)
        case atStart => exact ⟨i, rfl, by omega, HR2.out⟩
        case round =>
          obtain ⟨k, rfl, hk, he⟩ := hrel
          have HE := Lib.hid he
          clear he
          by_cases hlt : k < s.size
          · have hd := Lib.hid (drop_at s k hlt)
            by_cases hnl : s[k] = 10
            · have t1 : ((s[k].toNat : Int) == 10) = true := u8_eq hnl
              have t2 : ((s[k].toNat : Int) != 10) = false := by simp [bne, t1]
              have HN := Lib.hid hnl
              clear hnl
              go_wp2_with fail
              go_ret
              exact ⟨ret_int (by rw [HE.out, hd.out, HN.out, line_no]; simp), rfl⟩
            · have t1 : ((s[k].toNat : Int) == 10) = false := u8_ne hnl
              have t2 : ((s[k].toNat : Int) != 10) = true := by simp [bne, t1]
              have HN := Lib.hid hnl
              clear hnl
              go_wp2_with fail
              go_round
              case rel => exact ⟨k + 1, by go_num, by omega, by rw [HE.out, hd.out, line_yes _ _ HN.out]; omega⟩
              case measure => simp [intOf]; omega
          · go_wp2_with fail
            go_ret
            exact ⟨ret_int (by rw [HE.out, drop_end s k (by omega)]; simp [Lx.lineLen]), rfl⟩
    | false =>
      cases hK : [47, 42].isPrefixOf (s.data.toList.drop i) with
      | true =>
        obtain ⟨h2l, hce⟩ := comment_block _ hK i
        rw [← HR.out, List.drop_drop] at hce
        rw [List.length_drop, size_list] at h2l
        have HL := Lib.hid hL
        have HK := Lib.hid hK
        have HC := Lib.hid hce
        clear hL hK hce
        rcases h3 with h3 | ⟨h3, h4⟩
        all_goals
          go_enter Tryz.func33, Tryz.ntmps33
          go_wp2_with fail
          refine (is_any s ⟨#[47, 47]⟩ i hs (by omega) (by decide) (by decide) _).mono ?_
          rintro e w' ⟨rfl, rfl⟩
          rw [show (⟨#[47, 47]⟩ : ByteArray).data.toList = [47, 47] from rfl, HL.out]
          go_wp2_with fail
          refine (is_any s ⟨#[47, 42]⟩ i hs (by omega) (by decide) (by decide) _).mono ?_
          rintro e w' ⟨rfl, rfl⟩
          rw [show (⟨#[47, 42]⟩ : ByteArray).data.toList = [47, 42] from rfl, HK.out]
          go_wp2_with fail
          go_loop [7] (fun x => ∃ k : Nat, x = .int .i64 k ∧ i + 2 ≤ k ∧ k ≤ s.size ∧ R = cend i k (Lx.clos (s.data.toList.drop k))) (fun x => s.size - (intOf x).toNat)
          case atStart => exact ⟨i + 2, by go_num, Nat.le_refl _, by omega, HC.out⟩
          case round =>
            obtain ⟨k, rfl, hk2, hk, he⟩ := hrel
            have HE := Lib.hid he
            clear he
            by_cases hlt : k < s.size
            · have hd := Lib.hid (drop_at s k hlt)
              cases hQ : [42, 47].isPrefixOf (s.data.toList.drop k) with
              | true =>
                have HQ := Lib.hid hQ
                clear hQ
                go_wp2_with fail
                refine (is_any s ⟨#[42, 47]⟩ k hs (by omega) (by decide) (by decide) _).mono ?_
                rintro e w' ⟨rfl, rfl⟩
                rw [show (⟨#[42, 47]⟩ : ByteArray).data.toList = [42, 47] from rfl, HQ.out]
                go_wp2_with fail
                go_ret
                exact ⟨ret_int (by rw [HE.out, clos_hit _ HQ.out]; simp [cend]), rfl⟩
              | false =>
                have hQ' := hQ
                rw [hd.out] at hQ'
                have HQ := Lib.hid hQ
                have HQ' := Lib.hid hQ'
                clear hQ hQ'
                go_wp2_with fail
                refine (is_any s ⟨#[42, 47]⟩ k hs (by omega) (by decide) (by decide) _).mono ?_
                rintro e w' ⟨rfl, rfl⟩
                rw [show (⟨#[42, 47]⟩ : ByteArray).data.toList = [42, 47] from rfl, HQ.out]
                go_wp2_with fail
                go_round
                case rel => exact ⟨k + 1, by go_num, by omega, by omega, by rw [HE.out, hd.out, clos_on _ _ HQ'.out, cend_map]⟩
                case measure => simp [intOf]; omega
            · go_wp2_with fail
              go_ret
              exact ⟨ret_int (by rw [HE.out, drop_end s k (by omega)]; rfl), rfl⟩
      | false =>
        have hR2 : R = i := by rw [HR.out, comment_no _ hL hK]; rfl
        have HL := Lib.hid hL
        have HK := Lib.hid hK
        subst hR2
        clear hL hK
        rcases h3 with h3 | ⟨h3, h4⟩
        all_goals
          go_enter Tryz.func33, Tryz.ntmps33
          go_wp2_with fail
          refine (is_any s ⟨#[47, 47]⟩ _ hs (by omega) (by decide) (by decide) _).mono ?_
          rintro e w' ⟨rfl, rfl⟩
          rw [show (⟨#[47, 47]⟩ : ByteArray).data.toList = [47, 47] from rfl, HL.out]
          go_wp2_with fail
          refine (is_any s ⟨#[47, 42]⟩ _ hs (by omega) (by decide) (by decide) _).mono ?_
          rintro e w' ⟨rfl, rfl⟩
          rw [show (⟨#[47, 42]⟩ : ByteArray).data.toList = [47, 42] from rfl, HK.out]
          go_wp2_with fail
          go_ret
          exact ⟨rfl, rfl⟩


set_option maxHeartbeats 2000000 in
theorem word_any (s : ByteArray) (i : Nat) (hs : s.size ≤ 4000000000) (hi : i < s.size) (w : World) :
    Calls Tryz.prog 60 #[.string s, .int .i64 i] w fun e w' => e = .returned (.int .i64 (rword (s.data.toList.drop i))) ∧ w = w' := by
  have hd := drop_at s i hi
  obtain ⟨R, hR⟩ : ∃ R, R = rword (s.data.toList.drop i) := ⟨_, rfl⟩
  rw [← hR]
  cases hL : Lx.letter s[i] with
  | true =>
    have hR2 : R = Lx.wordLen (s.data.toList.drop i) := by rw [hR, hd, rword_cons, if_pos hL]
    have HR := Lib.hid hR2
    have HL := Lib.hid hL
    clear hR hR2 hd hL
    go_enter Tryz.func60, Tryz.ntmps60
    go_wp2_with fail
    go_loop [5] (fun n => ∃ k : Nat, n = .int .i64 k ∧ i + k ≤ s.size ∧ R = k + Lx.wordLen (s.data.toList.drop (i + k))) (fun n => s.size - (intOf n).toNat)
    case atStart => exact ⟨0, rfl, by omega, by rw [HR.out]; simp⟩
    case round =>
      obtain ⟨k, rfl, hk, he⟩ := hrel
      have HE := Lib.hid he
      clear he
      by_cases hlt : i + k < s.size
      · have hd := Lib.hid (drop_at s (i + k) hlt)
        cases hL2 : Lx.letter s[i + k] with
        | true =>
          go_wp2_with (go_at_call 79; refine (rletter_any _ _).mono ?_; rintro e w' ⟨rfl, rfl⟩)
          go_round
          case rel => exact ⟨k + 1, by go_num, by omega, by rw [HE.out, hd.out, word_yes _ _ (by simp [Lx.alnum, hL2])]; rw [show i + (k + 1) = i + k + 1 by omega]; omega⟩
          case measure => simp [intOf]; omega
        | false =>
          have hk0 : 0 < k := by
            rcases Nat.eq_zero_or_pos k with h | h
            · exfalso
              subst h
              have := HL.out
              simp only [Nat.add_zero] at hL2
              rw [this] at hL2; cases hL2
            · exact h
          cases hD : Lx.digit s[i + k] with
          | true =>
            go_wp2_with (first | (go_at_call 79; refine (rletter_any _ _).mono ?_; rintro e w' ⟨rfl, rfl⟩) | (go_at_call 80; refine (rdigit_any _ _).mono ?_; rintro e w' ⟨rfl, rfl⟩))
            go_round
            case rel => exact ⟨k + 1, by go_num, by omega, by rw [HE.out, hd.out, word_yes _ _ (by simp [Lx.alnum, hD])]; rw [show i + (k + 1) = i + k + 1 by omega]; omega⟩
            case measure => simp [intOf]; omega
          | false =>
            go_wp2_with (first | (go_at_call 79; refine (rletter_any _ _).mono ?_; rintro e w' ⟨rfl, rfl⟩) | (go_at_call 80; refine (rdigit_any _ _).mono ?_; rintro e w' ⟨rfl, rfl⟩))
            go_ret
            refine ⟨ret_int ?_, rfl⟩
            rw [HE.out, hd.out, word_no _ _ (by simp [Lx.alnum, hL2, hD])]; simp
      · go_wp2_with fail
        go_ret
        refine ⟨ret_int ?_, rfl⟩
        rw [HE.out, drop_end s (i + k) (by omega)]; simp [Lx.wordLen]
  | false =>
    have hR2 : R = 0 := by rw [hR, hd, rword_cons, if_neg (by rw [hL]; simp)]
    subst hR2
    clear hR hd
    go_enter Tryz.func60, Tryz.ntmps60
    go_wp2_with fail
    go_loop [5] (fun n => n = .int .i64 0) (fun n => 0)
    case atStart => exact rfl
    case round =>
      obtain rfl := hrel
      go_wp2_with (go_at_call 79; refine (rletter_any _ _).mono ?_; rintro e w' ⟨rfl, rfl⟩)
      go_ret
      exact ⟨rfl, rfl⟩
end Go.Proofs.YtognifnalfjdgaaGreatDoor

/- The document's own Tokens, what tpl8 had left out. -/
namespace Go.Proofs.YtognifnalfjdgaaGreatDoor
open Go.RowKit Go.Shelf
open Lx (T)
set_option maxHeartbeats 8000000 in
set_option maxRecDepth 100000 in
theorem rnumber_any (s : ByteArray) (i : Nat) (hs : s.size ≤ 4000000000) (hi : i < s.size) (w : World) :
    Calls Tryz.prog 61 #[.string s, .int .i64 i] w fun e w' => e = .returned (.int .i64 (Lx.numLen (s.data.toList.drop i))) ∧ w = w' := by
  have hd := drop_at s i hi
  have hnl := Lx.numLen_cons s[i] (s.data.toList.drop (i + 1))
  rw [← hd, u8_beq, show ((46 : UInt8).toNat : Int) = 46 from rfl] at hnl
  have hyes : ∀ h1 : i + 1 < s.size, Lx.headDigit (s.data.toList.drop (i + 1)) = Lx.digit s[i + 1] := fun h1 => by rw [drop_at s (i + 1) h1]; rfl
  have hno : ¬ i + 1 < s.size → Lx.headDigit (s.data.toList.drop (i + 1)) = false := fun h1 => by rw [drop_end s (i + 1) (by omega)]; rfl
  obtain ⟨R, hR⟩ : ∃ R, R = Lx.numLen (s.data.toList.drop i) := ⟨_, rfl⟩
  rw [← hR] at hnl ⊢
  clear hR hd
  by_cases hN : (Lx.digit s[i] || (((s[i].toNat : Int) == 46) && Lx.headDigit (s.data.toList.drop (i + 1)))) = true
  · rw [if_pos hN] at hnl
    have hcase : Lx.digit s[i] = true ∨ (Lx.digit s[i] = false ∧ ((s[i].toNat : Int) == 46) = true ∧ ∃ h : i + 1 < s.size, Lx.digit s[i + 1] = true) := by
      cases hD : Lx.digit s[i] with
      | true => exact .inl rfl
      | false =>
        rw [hD, Bool.false_or, Bool.and_eq_true] at hN
        refine .inr ⟨rfl, hN.1, ?_⟩
        by_cases h1 : i + 1 < s.size
        · exact ⟨h1, by rw [← hyes h1]; exact hN.2⟩
        · have := hN.2; rw [hno h1] at this; cases this
    have HR := Lib.hid hnl
    have HC := Lib.hid hcase
    obtain ⟨D, hD⟩ : ∃ D, D = Lx.digit s[i] := ⟨_, rfl⟩
    have HD := Lib.hid hD
    clear hN hyes hno hnl hcase hD
    go_enter Tryz.func61, Tryz.ntmps61
    go_upto_region 2 with (go_at_call 80; refine (rdigit_any _ _).mono ?_; rintro e w' ⟨rfl, rfl⟩; rw [← HD.out])
    go_cut [35] (fun s35 wx => s35 = .bool false ∧ wx = w)
    case first =>
      rcases HC.out with h1 | ⟨h1, h2, h3, h4⟩
      all_goals
        obtain rfl := HD.out.trans h1
        clear h1
        go_wp2_with (go_at_call 80; refine (rdigit_any _ _).mono ?_; rintro e w' ⟨rfl, rfl⟩)
        go_meet
        exact ⟨rfl, rfl⟩
    case rest =>
      obtain ⟨rfl, rfl⟩ := hcut
      go_wp2_with fail
      go_loop [6] (fun n => ∃ k : Nat, n = .int .i64 k ∧ 1 ≤ k ∧ i + k ≤ s.size ∧ R = k + Lx.numRest (s.data.toList.drop (i + k))) (fun n => s.size - (intOf n).toNat)
      case atStart => exact ⟨1, rfl, Nat.le_refl _, by omega, HR.out⟩
      case round =>
        obtain ⟨k, rfl, hk1, hk, he⟩ := hrel
        by_cases hlt : i + k < s.size
        · obtain ⟨q1, q2, q3⟩ := num_step s i k R hlt he
          have HQ1 := Lib.hid q1
          have HQ2 := Lib.hid q2
          have HQ3 := Lib.hid q3
          obtain ⟨SG, hSG⟩ : ∃ SG, SG = sgAt s (i + k) := ⟨_, rfl⟩
          obtain ⟨X, hX⟩ : ∃ X, X = expo (s.data.toList.drop (i + k)) := ⟨_, rfl⟩
          have hXE : X = (Lx.isE s[i + k] && SG) := by rw [hX, hSG, expo_sg s (i + k) hlt]
          have HX := Lib.hid hX
          have HSG := Lib.hid hSG
          have HXE := Lib.hid hXE
          clear q1 q2 q3 he hX hSG hXE
          go_upto_region 7 with (fail)
          go_cut [8] (fun s8 wx => s8 = .bool SG ∧ wx = wc)
          case first =>
            rcases sg_cases s (i + k) with ⟨x0, x1⟩ | ⟨x0, x1, x2⟩ | ⟨x0, x1, x2, x3⟩ | ⟨x0, x1, x2, x3⟩
            all_goals
              rw [← HSG.out] at x0
              have HX0 := Lib.hid x0
              clear x0
              go_wp2_with fail
              go_meet
              exact ⟨by rw [HX0.out], rfl⟩
          case rest =>
            obtain ⟨rfl, rfl⟩ := hcut
            go_upto_region 8 with (fail)
            go_cut [88] (fun s88 wx => s88 = .bool X ∧ wx = wc)
            case first =>
              have hxe := HXE.out
              cases hE : Lx.isE s[i + k] with
              | true =>
                rw [hE, Bool.true_and] at hxe
                have HH := Lib.hid hxe
                rcases isE_cases _ hE with y1 | ⟨y1, y2⟩ | ⟨y1, y2, y3⟩ | ⟨y1, y2, y3, y4⟩
                all_goals
                  clear hE hxe
                  go_wp2_with fail
                  go_meet
                  exact ⟨by rw [HH.out], rfl⟩
              | false =>
                rw [hE, Bool.false_and] at hxe
                have HH := Lib.hid hxe
                obtain ⟨y1, y2, y3, y4⟩ := isE_none _ hE
                clear hE hxe
                go_wp2_with fail
                go_meet
                exact ⟨by rw [HH.out], rfl⟩
            case rest =>
              obtain ⟨rfl, rfl⟩ := hcut
              cases hXX : X with
              | true =>
                have HY := Lib.hid (HQ1.out (by rw [← HX.out]; exact hXX))
                clear hXX
                go_wp2_with fail
                go_round
                case rel => exact ⟨k + 2, by go_num, by omega, by have := HY.out.1; omega, HY.out.2⟩
                case measure => simp [intOf]; omega
              | false =>
                have HXX := Lib.hid (HX.out.symm.trans hXX)
                clear hXX
                rcases numc_cases s[i + k] with ⟨y0, y1 | ⟨y1, y2⟩ | ⟨y1, y2, y3⟩⟩ | ⟨y0, y1, y2, y3⟩
                · have HY := Lib.hid (HQ2.out HXX.out y0)
                  clear y0
                  go_wp2_with (first | (go_at_call 79; refine (rletter_any _ _).mono ?_; rintro e w' ⟨rfl, rfl⟩) | (go_at_call 80; refine (rdigit_any _ _).mono ?_; rintro e w' ⟨rfl, rfl⟩))
                  go_round
                  case rel => exact ⟨k + 1, by go_num, by omega, by omega, HY.out⟩
                  case measure => simp [intOf]; omega
                · have HY := Lib.hid (HQ2.out HXX.out y0)
                  clear y0
                  go_wp2_with (first | (go_at_call 79; refine (rletter_any _ _).mono ?_; rintro e w' ⟨rfl, rfl⟩) | (go_at_call 80; refine (rdigit_any _ _).mono ?_; rintro e w' ⟨rfl, rfl⟩))
                  go_round
                  case rel => exact ⟨k + 1, by go_num, by omega, by omega, HY.out⟩
                  case measure => simp [intOf]; omega
                · have HY := Lib.hid (HQ2.out HXX.out y0)
                  have y4 : ((s[i + k].toNat : Int) != 46) = false := by simp [bne, y3]
                  clear y0
                  go_wp2_with (first | (go_at_call 79; refine (rletter_any _ _).mono ?_; rintro e w' ⟨rfl, rfl⟩) | (go_at_call 80; refine (rdigit_any _ _).mono ?_; rintro e w' ⟨rfl, rfl⟩))
                  go_round
                  case rel => exact ⟨k + 1, by go_num, by omega, by omega, HY.out⟩
                  case measure => simp [intOf]; omega
                · have HY := Lib.hid (HQ3.out HXX.out y0)
                  have y4 : ((s[i + k].toNat : Int) != 46) = true := by simp [bne, y3]
                  clear y0
                  go_wp2_with (first | (go_at_call 79; refine (rletter_any _ _).mono ?_; rintro e w' ⟨rfl, rfl⟩) | (go_at_call 80; refine (rdigit_any _ _).mono ?_; rintro e w' ⟨rfl, rfl⟩))
                  go_ret
                  exact ⟨ret_int (by rw [HY.out]), rfl⟩
        · have HE := Lib.hid he
          clear he
          go_wp2_with fail
          go_ret
          exact ⟨ret_int (by rw [HE.out, drop_end s (i + k) (by omega)]; simp [Lx.numRest]), rfl⟩
  · rw [if_neg hN] at hnl
    subst hnl
    have hcase : (Lx.digit s[i] = false ∧ ((s[i].toNat : Int) == 46) = false) ∨ (Lx.digit s[i] = false ∧ ((s[i].toNat : Int) == 46) = true ∧ ¬ i + 1 < s.size) ∨ (Lx.digit s[i] = false ∧ ((s[i].toNat : Int) == 46) = true ∧ ∃ h : i + 1 < s.size, Lx.digit s[i + 1] = false) := by
      cases hD : Lx.digit s[i] with
      | true => rw [hD] at hN; simp at hN
      | false =>
        rw [hD, Bool.false_or] at hN
        cases h46 : ((s[i].toNat : Int) == 46) with
        | false => exact .inl ⟨rfl, rfl⟩
        | true =>
          rw [h46, Bool.true_and] at hN
          by_cases h1 : i + 1 < s.size
          · rw [hyes h1] at hN
            exact .inr (.inr ⟨rfl, rfl, h1, by simpa using hN⟩)
          · exact .inr (.inl ⟨rfl, rfl, h1⟩)
    clear hN hyes hno
    rcases hcase with ⟨h1, h2⟩ | ⟨h1, h2, h3⟩ | ⟨h1, h2, h3, h4⟩
    all_goals
      go_enter Tryz.func61, Tryz.ntmps61
      go_wp2_with (go_at_call 80; refine (rdigit_any _ _).mono ?_; rintro e w' ⟨rfl, rfl⟩)
      go_ret
      exact ⟨rfl, rfl⟩
end Go.Proofs.YtognifnalfjdgaaGreatDoor
