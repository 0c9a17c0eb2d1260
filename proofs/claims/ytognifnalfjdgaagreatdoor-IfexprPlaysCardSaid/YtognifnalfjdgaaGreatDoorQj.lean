/- What is proved: what the document's own Defined tells. (and what stands with it) -/
import Derived.Test.YtognifnalfjdgaaGreatDoorQi
import Derived.Shelf.Pu.ToErrorRange
import Derived.Shelf.Pu.ToError
import Derived.Test.YtognifnalfjdgaaGreatDoorQd
import Derived.Test.YtognifnalfjdgaaGreatDoorQe
import Derived.Lib.ConvBytes
import Derived.Laws.Closers25
import Derived.Laws.Closers25b
import Derived.Shelf.Small.Wraps

/- What is proved: what the document's own Defined tells. -/
namespace Go.Proofs.YtognifnalfjdgaaGreatDoor
open Go.RowKit Go.Shelf

def Ie.isAt (l : List K) (i : Nat) (s : ByteArray) : Bool := match l[i]? with | none => false | some t => Ie.isS t s
set_option maxRecDepth 100000 in
set_option maxHeartbeats 1000000 in
theorem ris9_any (v : Value) (l : List K) (i : Nat) (s : ByteArray) (w : World) (hv : Ks w v l) (hl : l.length ≤ 1000000) : Calls Tryz.prog 42 #[v, .int .i64 i, .string s] w fun e w' => e = .returned (.bool (Ie.isAt l i s)) ∧ w' = w := by
  obtain ⟨ad, cap, rfl, -⟩ := id hv
  obtain ⟨n, hn⟩ : ∃ n, n = l.length := ⟨_, rfl⟩
  rcases Nat.lt_or_ge i l.length with hlt | hge
  · obtain ⟨t, ht⟩ : ∃ t, l[i]? = some t := ⟨_, List.getElem?_eq_getElem hlt⟩
    have e0 : Ie.isAt l i s = Ie.isS t s := by unfold Ie.isAt; rw [ht]
    rw [e0]
    obtain ⟨g, o, rfl, -, -, -, -, hc⟩ := hv.cells (by omega)
    obtain ⟨d0, d1, -, -, -, -⟩ := hc i t ht
    rw [← hn] at hlt hl ⊢
    obtain ⟨kd, tx, f, fr, en, bl⟩ := t
    dsimp only at d0 d1
    have z1 : (0 : Int) ≤ i := by omega
    have z2 : (i : Int) < n := by omega
    clear hv hc hn ht e0
    by_cases hk : kd = 5
    · by_cases htx : tx = s
      · have e1 : (tx.toList == s.toList) = true := by rw [ba_beq]; exact decide_eq_true htx
        have HT := Lib.hid htx
        clear htx
        go_enter Tryz.func42, Tryz.ntmps42
        go_wp2_with fail
        go_ret
        refine ⟨?_, rfl⟩
        simp [Ie.isS, HT.out, hk]
      · have e1 : (tx.toList == s.toList) = false := lit_ne htx
        have HT := Lib.hid htx
        clear htx
        go_enter Tryz.func42, Tryz.ntmps42
        go_wp2_with fail
        go_ret
        refine ⟨?_, rfl⟩
        simp [Ie.isS, HT.out, hk]
    · go_enter Tryz.func42, Tryz.ntmps42
      go_wp2_with fail
      go_ret
      refine ⟨?_, rfl⟩
      simp [Ie.isS, hk]
  · have e0 : Ie.isAt l i s = false := by unfold Ie.isAt; rw [List.getElem?_eq_none hge]
    rw [e0]
    rw [← hn] at hge hl ⊢
    have z1 : (n : Int) ≤ i := by omega
    clear hv hn e0
    go_enter Tryz.func42, Tryz.ntmps42
    go_wp2_with fail
    go_ret
    exact ⟨rfl, rfl⟩

theorem Ie.isS_kind {t : K} {s : ByteArray} (h : Ie.isS t s = true) : t.kind = 5 := by
  unfold Ie.isS at h
  simp only [Bool.and_eq_true, decide_eq_true_iff] at h
  exact h.1
/-- A name alone. -/
theorem Ie.asked_p1 {l : List K} {j : Nat} (_ : Ie.isAt l j Ie.sLp = false) {a : K} (ha : l[j]? = some a) (hk : a.kind = 1) : Ie.asked (l.drop j) = some (a.text, 1) := by
  obtain ⟨h1, h2⟩ := List.getElem?_eq_some_iff.1 ha
  rw [List.drop_eq_getElem_cons h1, h2]
  exact if_pos hk
theorem Ie.asked_p1n {l : List K} {j : Nat} (ho : Ie.isAt l j Ie.sLp = false) (hn : ∀ a, l[j]? = some a → a.kind ≠ 1) : Ie.asked (l.drop j) = none := by
  cases ha : l[j]? with
  | none =>
    rw [List.drop_eq_nil_of_le (by rw [List.getElem?_eq_none_iff] at ha; exact ha)]
    rfl
  | some a =>
    obtain ⟨h1, h2⟩ := List.getElem?_eq_some_iff.1 ha
    rw [List.drop_eq_getElem_cons h1, h2]
    unfold Ie.isAt at ho
    rw [ha] at ho
    have hk := hn a ha
    match l.drop (j + 1) with
    | [] => exact if_neg hk
    | [b] => exact if_neg hk
    | b :: c :: r => exact (if_neg hk).trans (if_neg fun h => by have ho' : Ie.isS a Ie.sLp = false := ho; rw [h.1] at ho'; cases ho')
theorem Ie.asked_p2 {l : List K} {j : Nat} {b : K} (ho : Ie.isAt l j Ie.sLp = true) (hb : l[j + 1]? = some b) (hk : b.kind = 1) (hc : Ie.isAt l (j + 2) Ie.sRp = true) : Ie.asked (l.drop j) = some (b.text, 3) := by
  unfold Ie.isAt at ho hc
  cases ha : l[j]? with
  | none => rw [ha] at ho; cases ho
  | some a =>
    rw [ha] at ho
    cases hcc : l[j + 2]? with
    | none => rw [hcc] at hc; cases hc
    | some c =>
      rw [hcc] at hc
      obtain ⟨h1, h2⟩ := List.getElem?_eq_some_iff.1 ha
      obtain ⟨h3, h4⟩ := List.getElem?_eq_some_iff.1 hb
      obtain ⟨h5, h6⟩ := List.getElem?_eq_some_iff.1 hcc
      rw [List.drop_eq_getElem_cons h1, h2, List.drop_eq_getElem_cons h3, h4, List.drop_eq_getElem_cons h5, h6]
      have := Ie.isS_kind ho
      exact (if_neg (by omega)).trans (if_pos ⟨ho, hk, hc⟩)
theorem Ie.asked_p2n {l : List K} {j : Nat} (ho : Ie.isAt l j Ie.sLp = true) (hn : (∀ b, l[j + 1]? = some b → b.kind ≠ 1) ∨ Ie.isAt l (j + 2) Ie.sRp = false) : Ie.asked (l.drop j) = none := by
  unfold Ie.isAt at ho hn
  cases ha : l[j]? with
  | none => rw [ha] at ho; cases ho
  | some a =>
    rw [ha] at ho
    have hak := Ie.isS_kind ho
    obtain ⟨h1, h2⟩ := List.getElem?_eq_some_iff.1 ha
    rw [List.drop_eq_getElem_cons h1, h2]
    have hk : ¬ a.kind = 1 := by omega
    cases hb : l[j + 1]? with
    | none =>
      rw [List.drop_eq_nil_of_le (by rw [List.getElem?_eq_none_iff] at hb; exact hb)]
      exact if_neg hk
    | some b =>
      obtain ⟨h3, h4⟩ := List.getElem?_eq_some_iff.1 hb
      rw [List.drop_eq_getElem_cons h3, h4]
      cases hc : l[j + 2]? with
      | none =>
        rw [List.drop_eq_nil_of_le (by rw [List.getElem?_eq_none_iff] at hc; exact hc)]
        exact if_neg hk
      | some c =>
        obtain ⟨h5, h6⟩ := List.getElem?_eq_some_iff.1 hc
        rw [List.drop_eq_getElem_cons h5, h6]
        refine (if_neg hk).trans (if_neg fun h => ?_)
        rcases hn with hn | hn
        · exact hn b hb h.2.1
        · rw [hc] at hn
          have hn' : Ie.isS c Ie.sRp = false := hn
          rw [h.2.2] at hn'
          cases hn'
theorem Ie.has_take {ns : List ByteArray} {j : Nat} {y x : ByteArray} (h : ns[j]? = some y) : Ie.has (ns.take (j + 1)) x = (Ie.has (ns.take j) x || decide (y = x)) := by
  obtain ⟨h1, h2⟩ := List.getElem?_eq_some_iff.1 h
  rw [List.take_succ_eq_append_getElem h1, h2]
  unfold Ie.has
  rw [List.any_append]
  simp

/-- What holds while tokens are passed. -/
structure DR (w : World) (L : Nat) (l : List K) (ns : List ByteArray) (S : Option (List K)) (o : Value) (k : Nat) (acc : List K) (f : Nat) (wr : World) : Prop where
  le : k ≤ L
  row : wr.ownsRow w.heap.size 54 6 o acc.length (ksCells acc)
  bl : Below w.heap.size w wr
  len : acc.length ≤ k
  fuel : L - k ≤ f
  spec : S = (Ie.defd ns f (l.drop k)).map (acc ++ ·)
theorem DR.add {w wr w2 w3 : World} {L k m f' : Nat} {l : List K} {ns : List ByteArray} {S : Option (List K)} {o : Value} {acc : List K} {f : Nat} {t : K} {g cap : Nat}
    (h : DR w L l ns S o k acc f wr) (hB : Below wr.heap.size wr w2) (hrow : w3.ownsRow w.heap.size 54 6 (.slice (some ⟨g, 0, none⟩) (acc.length + 1) cap) (acc.length + 1) (ksCells acc ++ kCells t))
    (hg : w2.grownBy w3 o.ownBlock) (hk : k < m) (hm : m ≤ L) (hf : L - m ≤ f') (hs : S = (Ie.defd ns f' (l.drop m)).map ((acc ++ [t]) ++ ·)) :
    DR w L l ns S (.slice (some ⟨g, 0, none⟩) (acc.length + 1) cap) m (acc ++ [t]) f' w3 := by
  refine ⟨hm, ?_, ?_, by rw [List.length_append]; have := h.len; simp; omega, hf, hs⟩
  · rw [ksCells_append, List.length_append]
    show w3.ownsRow _ _ _ _ (acc.length + 1) _
    simpa [ksCells] using hrow
  · exact (Below.then h.bl hB).grown hg (by have := h.bl.size; have := hB.size; omega) fun i e => (h.row.lt i e).1

set_option maxRecDepth 100000 in
set_option maxHeartbeats 8000000 in
theorem rdef_any (v u : Value) (l : List K) (ns : List ByteArray) (w : World) (hv : Ks w v l) (hT : Tb l) (hu : Sts w u ns) (hn : ns.length ≤ 1000000) :
    Calls Tryz.prog 18 #[v, u] w (DefPost (Ie.defd ns l.length l) w) := by
  obtain ⟨S, hS⟩ : ∃ S, S = Ie.defd ns l.length l := ⟨_, rfl⟩
  rw [← hS]
  have HS := Lib.hid hS
  obtain ⟨i0, hi, hz0, hz1, hz2⟩ := info_parts infoTok
  obtain ⟨uad, ucap, rfl, uc1, uc2, -⟩ := id hu
  obtain ⟨ad, cap, rfl, lc1, lc2, -⟩ := id hv
  obtain ⟨n, hnn⟩ : ∃ n, n = ns.length := ⟨_, rfl⟩
  obtain ⟨L, hL⟩ : ∃ L, L = l.length := ⟨_, rfl⟩
  have hL1 : L ≤ 1000000 := by rw [hL]; exact hT.1
  rw [← hnn] at hu uc1 hn
  rw [← hL] at hv lc1
  rw [← hnn, ← hL]
  have HU := Lib.hid hu
  have HV := Lib.hid hv
  have HT := Lib.hid hT
  have HN := Lib.hid hnn
  have HL := Lib.hid hL
  unfold maxLen at uc2 lc2
  have hdi : DR w L l ns S (.slice none 0 0) 0 [] L w := ⟨Nat.zero_le _, ⟨by simp [ksCells], .inl ⟨rfl, rfl⟩⟩, Below.refl _ _, Nat.le_refl _, by omega, by rw [hS, ← hL]; simp⟩
  have HDI := Lib.hid hdi
  clear hS hu hv hT hnn hL hdi
  go_enter Tryz.func18, Tryz.ntmps18
  go_wp2_with fail
  go_loopw [6, 7] (fun vo va wr => ∃ o, o = vo ∧ ∃ k acc f, va = .int .i64 (k : Nat) ∧ DR w L l ns S o k acc f wr) (fun _ va _ => L - (intOf va).toNat)
  case atStart => exact ⟨_, rfl, 0, [], L, rfl, HDI.out⟩
  case round =>
    obtain ⟨o, ho, k, acc, f, rfl, hD⟩ := hrel
    subst ho
    obtain ⟨V, hV⟩ : ∃ V, V = wr := ⟨_, rfl⟩
    rw [← hV] at hD
    rw [← hV]
    clear hV
    by_cases hlt : k < L
    · obtain ⟨t, ht⟩ : ∃ t, l[k]? = some t := ⟨_, List.getElem?_eq_getElem (by rw [← HL.out]; exact hlt)⟩
      obtain ⟨f, rfl⟩ : ∃ f', f = f' + 1 := ⟨f - 1, by have := hD.fuel; omega⟩
      have hdrop : l.drop k = t :: l.drop (k + 1) := by
        obtain ⟨h1, h2⟩ := List.getElem?_eq_some_iff.1 ht
        rw [List.drop_eq_getElem_cons h1, h2]
      obtain ⟨g, og, e, -, -, -, hg, hc⟩ := ((HV.out.below hD.bl)).cells (by rw [← HL.out]; omega)
      subst e
      obtain ⟨d0, d1, d2, d3, d4, d5⟩ := hc k t ht
      have hspec := hD.spec
      rw [hdrop] at hspec
      have HSP := Lib.hid hspec
      have HD := Lib.hid hD
      have hlen := hD.len
      have hrow := hD.row
      have hbs := hD.bl.size
      obtain ⟨m, hm⟩ : ∃ m, m = acc.length := ⟨_, rfl⟩
      obtain ⟨cs, hcs⟩ : ∃ cs, cs = ksCells acc := ⟨_, rfl⟩
      rw [← hm] at hlen
      rw [← hm, ← hcs] at hrow
      have HM := Lib.hid hm
      have HCS := Lib.hid hcs
      have HROW := Lib.hid hrow
      have z1 : (0 : Int) ≤ k := by omega
      have z2 : (k : Int) < L := by omega
      have HHC := Lib.hid hc
      clear hdrop hspec hD hm hcs hrow ht hc
      by_cases hdf : t.kind = 1 ∧ t.text = Ie.DEF
      · have hisd : Ie.isDef t = true := isDef_yes hdf.1 hdf.2
        obtain ⟨kd, tx, tf, fr, en, bl⟩ := t
        dsimp only at d0 d1 d2 d3 d4 d5 hdf
        have e1 : (tx.toList == [100, 101, 102, 105, 110, 101, 100]) = true := lit_yes hdf.2
        have hkd : kd = 1 := hdf.1
        have HISD := Lib.hid hisd
        clear hdf hisd
        subst hkd
        have hal := heap_alloc_new V (.cells #[.int .i64 1, .string tx, .int .i64 tf, .int .i64 fr, .int .i64 en, .bool bl] 54)
        have hA : Below V.heap.size V (V.alloc (.cells #[.int .i64 1, .string tx, .int .i64 tf, .int .i64 fr, .int .i64 en, .bool bl] 54)) := Below.alloc (Below.refl _ _) (Nat.le_refl _) _
        have hKs1 := HV.out.below (Below.then HD.out.bl hA)
        have HAL := Lib.hid hal
        have HA := Lib.hid hA
        have HK1 := Lib.hid hKs1
        have I1 := Lib.hid (ris9_any _ l (k + 1) Ie.sLp _ hKs1 (by rw [← HL.out]; exact hL1))
        obtain ⟨q, hq⟩ : ∃ q, q = Ie.isAt l (k + 1) Ie.sLp := ⟨_, rfl⟩
        rw [← hq] at I1
        have HQ := Lib.hid hq
        clear hal hA hKs1 hq
        go_wp2_with fail
        rw [show ((k : Int) + 1) = ((k + 1 : Nat) : Int) by omega]
        refine I1.out.mono ?_
        rintro en3 w3 ⟨rfl, rfl⟩
        obtain ⟨WA, hWA⟩ : ∃ WA, WA = V.alloc (.cells #[.int .i64 1, .string tx, .int .i64 tf, .int .i64 fr, .int .i64 en, .bool bl] 54) := ⟨_, rfl⟩
        rw [← hWA] at HA HAL HK1
        rw [← hWA]
        clear hWA I1
        cases q with
        | false =>
          rcases Nat.lt_or_ge (k + 1) L with hj | hj
          · obtain ⟨a, ha⟩ : ∃ a, l[k + 1]? = some a := ⟨_, List.getElem?_eq_getElem (by rw [← HL.out]; exact hj)⟩
            obtain ⟨g', o', e, -, -, -, -, hc1⟩ := HK1.out.cells (by rw [← HL.out]; omega)
            injection e with e
            injection e with e2 e3
            subst e2 e3
            obtain ⟨a0, a1, a2, a3, a4, a5⟩ := hc1 (k + 1) a ha
            have zj0 : (0 : Int) ≤ ((k + 1 : Nat) : Int) := by omega
            have zj1 : ((k + 1 : Nat) : Int) < L := by omega
            have zj2 : ¬ ((L : Int) ≤ ((k + 1 : Nat) : Int)) := by omega
            have HAA := Lib.hid ha
            clear hc1 ha
            obtain ⟨akd, x, af, afr, aen, abl⟩ := a
            dsimp only at a0 a1 a2 a3 a4 a5
            by_cases hak : akd = 1
            · subst hak
              have HJ := Lib.hid hj
              clear a2 a3 a4 a5
              have hAs := HA.out.size
              have hal2 := HAL.out
              obtain ⟨b0, b1, -, -, -, -⟩ := box6_cells hal2
              have f0 : WA.frozen? ⟨V.heap.size, 0, none⟩ = false := Lib.frozen_of_heap hal2 0
              have f1 : WA.frozen? ⟨V.heap.size, 1, none⟩ = false := Lib.frozen_of_heap hal2 1
              have hB4 : Below V.heap.size V ((WA.setCell ⟨V.heap.size, 0, none⟩ (.int .i64 2)).setCell ⟨V.heap.size, 1, none⟩ (.string ⟨#[48]⟩)) := (HA.out.setCell (Nat.le_refl _) _).setCell (Nat.le_refl _) _
              have hb4 : ((WA.setCell ⟨V.heap.size, 0, none⟩ (.int .i64 2)).setCell ⟨V.heap.size, 1, none⟩ (.string ⟨#[48]⟩)).heap[V.heap.size]? = some (.cells #[.int .i64 2, .string (if Ie.has (ns.take 0) x then Ie.B1 else Ie.B0), .int .i64 tf, .int .i64 fr, .int .i64 en, .bool bl] 54 (0, 0)) := by
                simp [World.setCell, Array.getElem?_modify, hal2, Ie.has, Ie.B0]
              have HB4 := Lib.hid hB4
              have HBB4 := Lib.hid hb4
              clear hal2 hB4 hb4 d0 d1 d2 d3 d4 d5 hj
              go_wp2_with fail
              go_loopw [11] (fun vi WW => ∃ i : Nat, vi = .int .i64 i ∧ i ≤ n ∧ WW.heap[V.heap.size]? = some (.cells #[.int .i64 2, .string (if Ie.has (ns.take i) x then Ie.B1 else Ie.B0), .int .i64 tf, .int .i64 fr, .int .i64 en, .bool bl] 54 (0, 0)) ∧ Below V.heap.size V WW) (fun vi _ => n - (intOf vi).toNat)
              case atStart => exact ⟨0, rfl, Nat.zero_le _, HBB4.out, HB4.out⟩
              case round =>
                obtain ⟨i, rfl, hi9, hb, hB⟩ := hrel
                obtain ⟨b0, b1, b2, b3, b4, b5⟩ := box6_cells hb
                have hWb := Below.then HD.out.bl hB
                have f1 : wr.frozen? ⟨V.heap.size, 1, none⟩ = false := Lib.frozen_of_heap hb 1
                by_cases hlt9 : i < n
                · obtain ⟨y, hy⟩ : ∃ y, ns[i]? = some y := ⟨_, List.getElem?_eq_getElem (by rw [← HN.out]; exact hlt9)⟩
                  obtain ⟨ad', cap', e, -, -, h3⟩ := HU.out.below hWb
                  injection e with e1' e2' e3'
                  subst e1'
                  obtain ⟨ng, no, rfl, c0⟩ := h3 i y hy
                  have c1 : wr.cell? ⟨g, og + (k + 1) * 6 + 1, none⟩ = some (.string x) := by
                    obtain ⟨g', o', e, -, -, -, -, hc1⟩ := (HV.out.below hWb).cells (by rw [← HL.out]; omega)
                    injection e with e
                    injection e with e2 e3
                    subst e2 e3
                    exact (hc1 (k + 1) _ HAA.out).2.1
                  have hht := Ie.has_take (x := x) hy
                  have zi0 : (0 : Int) ≤ i := by omega
                  have zi1 : (i : Int) < n := by omega
                  have HB := Lib.hid hB
                  have HBX := Lib.hid hb
                  clear h3 e2' e3' hy hB hb hWb b0 b2 b3 b4 b5
                  by_cases hyx : y = x
                  · have ey : (y.toList == x.toList) = true := by rw [ba_beq]; exact decide_eq_true hyx
                    rw [decide_eq_true hyx, Bool.or_true] at hht
                    have HHT := Lib.hid hht
                    clear hht hyx
                    go_wp2_with fail
                    go_quiet (fail)
                    go_wp2_with fail
                    go_roundw
                    case rel =>
                      refine ⟨i + 1, by go_num, by omega, ?_, ?_⟩
                      · rw [HHT.out]
                        have := HBX.out
                        simp [World.setCell, Array.getElem?_modify, this, Ie.B1]
                      · exact (below_drewN HB.out _).setCell (Nat.le_refl _) _
                    case measure => simp [intOf]; omega
                  · have ey : (y.toList == x.toList) = false := lit_ne hyx
                    rw [decide_eq_false hyx, Bool.or_false] at hht
                    have HHT := Lib.hid hht
                    clear hht hyx
                    go_wp2_with fail
                    go_quiet (fail)
                    go_wp2_with fail
                    go_roundw
                    case rel =>
                      refine ⟨i + 1, by go_num, by omega, ?_, ?_⟩
                      · rw [HHT.out]
                        exact HBX.out
                      · exact below_drewN HB.out _
                    case measure => simp [intOf]; omega
                · obtain rfl : i = n := by omega
                  rw [List.take_of_length_le (by rw [← HN.out]; exact Nat.le_refl _)] at b1
                  have htold : Ie.told ns ⟨1, tx, tf, fr, en, bl⟩ x = ⟨2, if Ie.has ns x then Ie.B1 else Ie.B0, tf, fr, en, bl⟩ := rfl
                  obtain ⟨X, hX⟩ : ∃ X, X = (if Ie.has ns x then Ie.B1 else Ie.B0) := ⟨_, rfl⟩
                  rw [← hX] at b1 htold
                  have hrow6 := row_below HROW.out hB
                  have h6s := hB.size
                  have HTOLD := Lib.hid htold
                  have HB6 := Lib.hid hB
                  have HROW6 := Lib.hid hrow6
                  clear hB hb hrow6 htold hX f1
                  have hask := Ie.asked_p1 HQ.out.symm HAA.out rfl
                  have HS2 := Lib.hid (show S = (Ie.defd ns f (l.drop (k + 2))).map ((acc ++ [Ie.told ns ⟨1, tx, tf, fr, en, bl⟩ x]) ++ ·) by rw [HSP.out, Ie.defd_yes HISD.out hask, List.drop_drop])
                  have HLE := Lib.hid (show k + 2 ≤ L by have := HJ.out; omega)
                  clear hask
                  go_wp2_with (at_builtin; refine wpList_append_lies _ rfl _ _ 26 rfl w.heap.size 54 i0 _ 6 56 Tryz.underlying26 hi hz0 hz1 hz2 rfl (by decide) o m cs rfl (HROW6.out.alloc _) ⟨wr.heap.size, 0, none⟩ 1 1 (kCells ⟨2, X, tf, fr, en, bl⟩) rfl rfl (World.news_of_block (cs := #[.int .i64 2, .string X, .int .i64 tf, .int .i64 fr, .int .i64 en, .bool bl]) (t := 54) (fr := (0, 0)) (heap_alloc_new wr _)) (by simp [Value.oneCell', kCells]) (by decide) (by unfold maxLen; omega) (by omega) (by simp; omega) _ rfl ?_; intro gg cap' w7 hown7 hgrow hat hlt7)
                  go_roundw
                  case rel =>
                    refine ⟨_, rfl, k + 2, acc ++ [⟨2, X, tf, fr, en, bl⟩], f, ?_, ?_⟩
                    · first | rfl | (congr 1; done) | (congr 1; omega)
                    · have hx := HD.out.add (t := ⟨2, X, tf, fr, en, bl⟩) (g := gg) (cap := cap') (m := k + 2) (f' := f) (HB6.out.alloc HB6.out.size (.cells #[.int .i64 2, .string X, .int .i64 tf, .int .i64 fr, .int .i64 en, .bool bl] 54)) (by rw [← HM.out, ← HCS.out]; exact hown7) hgrow (by omega) HLE.out (by have := HD.out.fuel; omega) (by rw [← HTOLD.out]; exact HS2.out)
                      rw [← HM.out] at hx
                      exact hx
                  case measure =>
                    have := HLE.out
                    simp [intOf]; omega
            · have hakb : (akd != 1) = true := by simpa using hak
              have HS2 := Lib.hid (show S = none by rw [HSP.out]; exact Ie.defd_none HISD.out (Ie.asked_p1n HQ.out.symm (fun a h => by rw [HAA.out] at h; cases h; exact hak)))
              go_wp2_with fail
              go_ret2
              exact ⟨_, 90, [], rfl, Ks.none_at _ _ _ (by decide), Below.then HD.out.bl HA.out, .inl ⟨HS2.out, rfl, rfl⟩⟩
          · have zj2 : ((L : Int) ≤ ((k + 1 : Nat) : Int)) := by omega
            have HS2 := Lib.hid (show S = none by rw [HSP.out]; exact Ie.defd_none HISD.out (Ie.asked_p1n HQ.out.symm (fun a h => by rw [List.getElem?_eq_none (by rw [← HL.out]; exact hj)] at h; cases h)))
            go_wp2_with fail
            go_ret2
            exact ⟨_, 90, [], rfl, Ks.none_at _ _ _ (by decide), Below.then HD.out.bl HA.out, .inl ⟨HS2.out, rfl, rfl⟩⟩
        | true =>
          rcases Nat.lt_or_ge (k + 1 + 1) L with hj | hj
          · obtain ⟨a, ha⟩ : ∃ a, l[k + 1 + 1]? = some a := ⟨_, List.getElem?_eq_getElem (by rw [← HL.out]; exact hj)⟩
            obtain ⟨g', o', e, -, -, -, -, hc1⟩ := HK1.out.cells (by rw [← HL.out]; omega)
            injection e with e
            injection e with e2 e3
            subst e2 e3
            obtain ⟨a0, a1, a2, a3, a4, a5⟩ := hc1 (k + 1 + 1) a ha
            have zj0 : (0 : Int) ≤ ((k + 1 + 1 : Nat) : Int) := by omega
            have zj1 : ((k + 1 + 1 : Nat) : Int) < L := by omega
            have zj2 : ¬ ((L : Int) ≤ ((k + 1 + 1 : Nat) : Int)) := by omega
            have HAA := Lib.hid ha
            clear hc1 ha
            obtain ⟨akd, x, af, afr, aen, abl⟩ := a
            dsimp only at a0 a1 a2 a3 a4 a5
            by_cases hak : akd = 1
            · subst hak
              have HJ := Lib.hid hj
              clear a2 a3 a4 a5
              have hAs := HA.out.size
              have hal2 := HAL.out
              obtain ⟨b0, b1, -, -, -, -⟩ := box6_cells hal2
              have f0 : WA.frozen? ⟨V.heap.size, 0, none⟩ = false := Lib.frozen_of_heap hal2 0
              have f1 : WA.frozen? ⟨V.heap.size, 1, none⟩ = false := Lib.frozen_of_heap hal2 1
              have hB4 : Below V.heap.size V ((WA.setCell ⟨V.heap.size, 0, none⟩ (.int .i64 2)).setCell ⟨V.heap.size, 1, none⟩ (.string ⟨#[48]⟩)) := (HA.out.setCell (Nat.le_refl _) _).setCell (Nat.le_refl _) _
              have hb4 : ((WA.setCell ⟨V.heap.size, 0, none⟩ (.int .i64 2)).setCell ⟨V.heap.size, 1, none⟩ (.string ⟨#[48]⟩)).heap[V.heap.size]? = some (.cells #[.int .i64 2, .string (if Ie.has (ns.take 0) x then Ie.B1 else Ie.B0), .int .i64 tf, .int .i64 fr, .int .i64 en, .bool bl] 54 (0, 0)) := by
                simp [World.setCell, Array.getElem?_modify, hal2, Ie.has, Ie.B0]
              have HB4 := Lib.hid hB4
              have HBB4 := Lib.hid hb4
              clear hal2 hB4 hb4 d0 d1 d2 d3 d4 d5 hj
              go_wp2_with fail
              go_loopw [11] (fun vi WW => ∃ i : Nat, vi = .int .i64 i ∧ i ≤ n ∧ WW.heap[V.heap.size]? = some (.cells #[.int .i64 2, .string (if Ie.has (ns.take i) x then Ie.B1 else Ie.B0), .int .i64 tf, .int .i64 fr, .int .i64 en, .bool bl] 54 (0, 0)) ∧ Below V.heap.size V WW) (fun vi _ => n - (intOf vi).toNat)
              case atStart => exact ⟨0, rfl, Nat.zero_le _, HBB4.out, HB4.out⟩
              case round =>
                obtain ⟨i, rfl, hi9, hb, hB⟩ := hrel
                obtain ⟨b0, b1, b2, b3, b4, b5⟩ := box6_cells hb
                have hWb := Below.then HD.out.bl hB
                have f1 : wr.frozen? ⟨V.heap.size, 1, none⟩ = false := Lib.frozen_of_heap hb 1
                by_cases hlt9 : i < n
                · obtain ⟨y, hy⟩ : ∃ y, ns[i]? = some y := ⟨_, List.getElem?_eq_getElem (by rw [← HN.out]; exact hlt9)⟩
                  obtain ⟨ad', cap', e, -, -, h3⟩ := HU.out.below hWb
                  injection e with e1' e2' e3'
                  subst e1'
                  obtain ⟨ng, no, rfl, c0⟩ := h3 i y hy
                  have c1 : wr.cell? ⟨g, og + (k + 1 + 1) * 6 + 1, none⟩ = some (.string x) := by
                    obtain ⟨g', o', e, -, -, -, -, hc1⟩ := (HV.out.below hWb).cells (by rw [← HL.out]; omega)
                    injection e with e
                    injection e with e2 e3
                    subst e2 e3
                    exact (hc1 (k + 1 + 1) _ HAA.out).2.1
                  have hht := Ie.has_take (x := x) hy
                  have zi0 : (0 : Int) ≤ i := by omega
                  have zi1 : (i : Int) < n := by omega
                  have HB := Lib.hid hB
                  have HBX := Lib.hid hb
                  clear h3 e2' e3' hy hB hb hWb b0 b2 b3 b4 b5
                  by_cases hyx : y = x
                  · have ey : (y.toList == x.toList) = true := by rw [ba_beq]; exact decide_eq_true hyx
                    rw [decide_eq_true hyx, Bool.or_true] at hht
                    have HHT := Lib.hid hht
                    clear hht hyx
                    go_wp2_with fail
                    go_quiet (fail)
                    go_wp2_with fail
                    go_roundw
                    case rel =>
                      refine ⟨i + 1, by go_num, by omega, ?_, ?_⟩
                      · rw [HHT.out]
                        have := HBX.out
                        simp [World.setCell, Array.getElem?_modify, this, Ie.B1]
                      · exact (below_drewN HB.out _).setCell (Nat.le_refl _) _
                    case measure => simp [intOf]; omega
                  · have ey : (y.toList == x.toList) = false := lit_ne hyx
                    rw [decide_eq_false hyx, Bool.or_false] at hht
                    have HHT := Lib.hid hht
                    clear hht hyx
                    go_wp2_with fail
                    go_quiet (fail)
                    go_wp2_with fail
                    go_roundw
                    case rel =>
                      refine ⟨i + 1, by go_num, by omega, ?_, ?_⟩
                      · rw [HHT.out]
                        exact HBX.out
                      · exact below_drewN HB.out _
                    case measure => simp [intOf]; omega
                · obtain rfl : i = n := by omega
                  rw [List.take_of_length_le (by rw [← HN.out]; exact Nat.le_refl _)] at b1
                  have htold : Ie.told ns ⟨1, tx, tf, fr, en, bl⟩ x = ⟨2, if Ie.has ns x then Ie.B1 else Ie.B0, tf, fr, en, bl⟩ := rfl
                  obtain ⟨X, hX⟩ : ∃ X, X = (if Ie.has ns x then Ie.B1 else Ie.B0) := ⟨_, rfl⟩
                  rw [← hX] at b1 htold
                  have hrow6 := row_below HROW.out hB
                  have h6s := hB.size
                  have HTOLD := Lib.hid htold
                  have HB6 := Lib.hid hB
                  have HROW6 := Lib.hid hrow6
                  clear hB hb hrow6 htold hX f1
                  have I2 := Lib.hid (ris9_any _ l (k + 1 + 1 + 1) Ie.sRp wr (HV.out.below (Below.then HD.out.bl HB6.out)) (by rw [← HL.out]; exact hL1))
                  obtain ⟨q2, hq2⟩ : ∃ q, q = Ie.isAt l (k + 1 + 1 + 1) Ie.sRp := ⟨_, rfl⟩
                  rw [← hq2] at I2
                  have HQ2 := Lib.hid hq2
                  clear hq2
                  go_wp2_with fail
                  rw [show ((k : Int) + 1 + 1 + 1) = ((k + 1 + 1 + 1 : Nat) : Int) by omega]
                  refine I2.out.mono ?_
                  rintro en4 w5 ⟨rfl, hw5⟩
                  rw [hw5]
                  clear hw5
                  cases q2 with
                  | false =>
                    have HS2 := Lib.hid (show S = none by rw [HSP.out]; exact Ie.defd_none HISD.out (Ie.asked_p2n HQ.out.symm (.inr HQ2.out.symm)))
                    go_wp2_with fail
                    go_ret2
                    exact ⟨_, 90, [], rfl, Ks.none_at _ _ _ (by decide), Below.then HD.out.bl HB6.out, .inl ⟨HS2.out, rfl, rfl⟩⟩
                  | true =>
                    have hask := Ie.asked_p2 (j := k + 1) HQ.out.symm HAA.out rfl HQ2.out.symm
                    have HS2 := Lib.hid (show S = (Ie.defd ns f (l.drop (k + 4))).map ((acc ++ [Ie.told ns ⟨1, tx, tf, fr, en, bl⟩ x]) ++ ·) by rw [HSP.out, Ie.defd_yes HISD.out hask, List.drop_drop])
                    have HLE := Lib.hid (show k + 4 ≤ L by
                      have h1 := HQ2.out
                      unfold Ie.isAt at h1
                      cases hc : l[k + 1 + 1 + 1]? with
                      | none => rw [hc] at h1; cases h1
                      | some c =>
                        have := (List.getElem?_eq_some_iff.1 hc).1
                        rw [← HL.out] at this
                        omega)
                    clear hask
                    go_wp2_with (at_builtin; refine wpList_append_lies _ rfl _ _ 26 rfl w.heap.size 54 i0 _ 6 56 Tryz.underlying26 hi hz0 hz1 hz2 rfl (by decide) o m cs rfl (HROW6.out.alloc _) ⟨wr.heap.size, 0, none⟩ 1 1 (kCells ⟨2, X, tf, fr, en, bl⟩) rfl rfl (World.news_of_block (cs := #[.int .i64 2, .string X, .int .i64 tf, .int .i64 fr, .int .i64 en, .bool bl]) (t := 54) (fr := (0, 0)) (heap_alloc_new wr _)) (by simp [Value.oneCell', kCells]) (by decide) (by unfold maxLen; omega) (by omega) (by simp; omega) _ rfl ?_; intro gg cap' w7 hown7 hgrow hat hlt7)
                    go_roundw
                    case rel =>
                      refine ⟨_, rfl, k + 4, acc ++ [⟨2, X, tf, fr, en, bl⟩], f, ?_, ?_⟩
                      · first | rfl | (congr 1; done) | (congr 1; omega)
                      · have hx := HD.out.add (t := ⟨2, X, tf, fr, en, bl⟩) (g := gg) (cap := cap') (m := k + 4) (f' := f) (HB6.out.alloc HB6.out.size (.cells #[.int .i64 2, .string X, .int .i64 tf, .int .i64 fr, .int .i64 en, .bool bl] 54)) (by rw [← HM.out, ← HCS.out]; exact hown7) hgrow (by omega) HLE.out (by have := HD.out.fuel; omega) (by rw [← HTOLD.out]; exact HS2.out)
                        rw [← HM.out] at hx
                        exact hx
                    case measure =>
                      have := HLE.out
                      simp [intOf]; omega
            · have hakb : (akd != 1) = true := by simpa using hak
              have HS2 := Lib.hid (show S = none by rw [HSP.out]; exact Ie.defd_none HISD.out (Ie.asked_p2n HQ.out.symm (.inl fun a h => by rw [HAA.out] at h; cases h; exact hak)))
              go_wp2_with fail
              go_ret2
              exact ⟨_, 90, [], rfl, Ks.none_at _ _ _ (by decide), Below.then HD.out.bl HA.out, .inl ⟨HS2.out, rfl, rfl⟩⟩
          · have zj2 : ((L : Int) ≤ ((k + 1 + 1 : Nat) : Int)) := by omega
            have HS2 := Lib.hid (show S = none by rw [HSP.out]; exact Ie.defd_none HISD.out (Ie.asked_p2n HQ.out.symm (.inl fun a h => by rw [List.getElem?_eq_none (by rw [← HL.out]; exact hj)] at h; cases h)))
            go_wp2_with fail
            go_ret2
            exact ⟨_, 90, [], rfl, Ks.none_at _ _ _ (by decide), Below.then HD.out.bl HA.out, .inl ⟨HS2.out, rfl, rfl⟩⟩
      · have hisd : Ie.isDef t = false := isDef_no hdf
        have hS2 : S = (Ie.defd ns f (l.drop (k + 1))).map ((acc ++ [t]) ++ ·) := by rw [HSP.out, Ie.defd_no hisd]
        have HS2 := Lib.hid hS2
        have hA : Below V.heap.size V (V.alloc (.cells #[.int .i64 t.kind, .string t.text, .int .i64 t.file, .int .i64 t.fr, .int .i64 t.en, .bool t.bl] 54)) := Below.alloc (Below.refl _ _) (Nat.le_refl _) _
        have hA2 := hA.alloc hA.size (.cells #[.int .i64 t.kind, .string t.text, .int .i64 t.file, .int .i64 t.fr, .int .i64 t.en, .bool t.bl] 54)
        have HA2 := Lib.hid hA2
        have hcases : (t.kind = 1 ∧ ¬ t.text = Ie.DEF) ∨ ¬ t.kind = 1 := by
          by_cases h1 : t.kind = 1
          · exact .inl ⟨h1, fun h2 => hdf ⟨h1, h2⟩⟩
          · exact .inr h1
        obtain ⟨kd, tx, tf, fr, en, bl⟩ := t
        dsimp only at d0 d1 d2 d3 d4 d5 hcases HA2 hA
        clear hisd hS2 hdf hA hA2 HSP
        rcases hcases with ⟨hkd, htx⟩ | hkd
        · have e1 : (tx.toList == [100, 101, 102, 105, 110, 101, 100]) = false := lit_no htx
          subst hkd
          clear htx
          go_wp2_with (at_builtin; refine wpList_append_lies _ rfl _ _ 26 rfl w.heap.size 54 i0 _ 6 56 Tryz.underlying26 hi hz0 hz1 hz2 rfl (by decide) o m cs rfl ((HROW.out.alloc _).alloc _) ⟨V.heap.size + 1, 0, none⟩ 1 1 (kCells ⟨1, tx, tf, fr, en, bl⟩) rfl rfl (World.news_of_block (cs := #[.int .i64 1, .string tx, .int .i64 tf, .int .i64 fr, .int .i64 en, .bool bl]) (t := 54) (fr := (0, 0)) (heap_alloc2 V _ _)) (by simp [Value.oneCell', kCells]) (by decide) (by unfold maxLen; omega) (by omega) (by simp; omega) _ rfl ?_; intro gg cap' w7 hown7 hgrow hat hlt7)
          go_roundw
          case rel =>
            refine ⟨_, rfl, k + 1, acc ++ [⟨1, tx, tf, fr, en, bl⟩], f, by go_num, ?_⟩
            have hx := HD.out.add (t := ⟨1, tx, tf, fr, en, bl⟩) (g := gg) (cap := cap') (m := k + 1) (f' := f) HA2.out (by rw [← HM.out, ← HCS.out]; exact hown7) hgrow (by omega) (by omega) (by have := HD.out.fuel; omega) HS2.out
            rw [← HM.out] at hx
            exact hx
          case measure => simp [intOf]; omega
        ·
          go_wp2_with (at_builtin; refine wpList_append_lies _ rfl _ _ 26 rfl w.heap.size 54 i0 _ 6 56 Tryz.underlying26 hi hz0 hz1 hz2 rfl (by decide) o m cs rfl ((HROW.out.alloc _).alloc _) ⟨V.heap.size + 1, 0, none⟩ 1 1 (kCells ⟨kd, tx, tf, fr, en, bl⟩) rfl rfl (World.news_of_block (cs := #[.int .i64 kd, .string tx, .int .i64 tf, .int .i64 fr, .int .i64 en, .bool bl]) (t := 54) (fr := (0, 0)) (heap_alloc2 V _ _)) (by simp [Value.oneCell', kCells]) (by decide) (by unfold maxLen; omega) (by omega) (by simp; omega) _ rfl ?_; intro gg cap' w7 hown7 hgrow hat hlt7)
          go_roundw
          case rel =>
            refine ⟨_, rfl, k + 1, acc ++ [⟨kd, tx, tf, fr, en, bl⟩], f, by go_num, ?_⟩
            have hx := HD.out.add (t := ⟨kd, tx, tf, fr, en, bl⟩) (g := gg) (cap := cap') (m := k + 1) (f' := f) HA2.out (by rw [← HM.out, ← HCS.out]; exact hown7) hgrow (by omega) (by omega) (by have := HD.out.fuel; omega) HS2.out
            rw [← HM.out] at hx
            exact hx
          case measure => simp [intOf]; omega
    · obtain rfl : k = L := by have := hD.le; omega
      have hS2 : S = some acc := by
        rw [hD.spec, List.drop_eq_nil_of_le (by rw [← HL.out]; exact Nat.le_refl _)]
        exact Ie.defd_end ns f acc
      have hKs := Ks.of_row (base := w.heap.size) hD.row
      have HF := Lib.hid (And.intro hKs (And.intro hD.bl hS2))
      clear hD hS2 hKs
      go_wp2_with fail
      go_ret2
      exact ⟨_, 0, acc, rfl, HF.out.1, HF.out.2.1, .inr ⟨HF.out.2.2, rfl⟩⟩
end Go.Proofs.YtognifnalfjdgaaGreatDoor

/- What is proved: what strconv's toError tells, laid at this program. -/
namespace Go.Proofs.YtognifnalfjdgaaGreatDoor
open Go.Shelf
def laysPu17_ren : Go.Shelf.Ren := ⟨fun | 17 => 68 | 21 => 85 | 22 => 86 | 23 => 87 | 24 => 88 | 25 => 97 | 27 => 99 | 26 => 98 | 28 => 109 | 29 => 111 | 30 => 112 | 31 => 113 | 32 => 114 | 33 => 115 | 35 => 117 | 34 => 116 | 36 => 118 | 37 => 119 | 38 => 120 | 39 => 121 | 40 => 122 | n => n, fun | 9 => 9 | 3 => 3 | 24 => 67 | 34 => 114 | 4 => 4 | 39 => 116 | 44 => 129 | 37 => 77 | 0 => 0 | 47 => 109 | 50 => 138 | 48 => 136 | 2 => 2 | 52 => 144 | 22 => 65 | 5 => 5 | 55 => 147 | 59 => 150 | 60 => 140 | 20 => 20 | 61 => 151 | 36 => 79 | 65 => 155 | 66 => 156 | 67 => 91 | n => n, fun | 0 => 1 | 1 => 2 | 2 => 4 | 3 => 5 | 4 => 6 | n => n⟩
theorem laysPu17 : Go.Proofs.LaysPu.n17 Tryz.prog laysPu17_ren := {
  mixed := by kernel_rfl
  f17 := Tryz.func68.trans (congrArg some (by kernel_rfl))
  f21 := Tryz.func85.trans (congrArg some (by kernel_rfl))
  f22 := Tryz.func86.trans (congrArg some (by kernel_rfl))
  f23 := Tryz.func87.trans (congrArg some (by kernel_rfl))
  f24 := Tryz.func88.trans (congrArg some (by kernel_rfl))
  f25 := Tryz.func97.trans (congrArg some (by kernel_rfl))
  f26 := Tryz.func98.trans (congrArg some (by kernel_rfl))
  f27 := Tryz.func99.trans (congrArg some (by kernel_rfl))
  f28 := Tryz.func109.trans (congrArg some (by kernel_rfl))
  f29 := Tryz.func111.trans (congrArg some (by kernel_rfl))
  f30 := Tryz.func112.trans (congrArg some (by kernel_rfl))
  f31 := Tryz.func113.trans (congrArg some (by kernel_rfl))
  f32 := Tryz.func114.trans (congrArg some (by kernel_rfl))
  f33 := Tryz.func115.trans (congrArg some (by kernel_rfl))
  f34 := Tryz.func116.trans (congrArg some (by kernel_rfl))
  f35 := Tryz.func117.trans (congrArg some (by kernel_rfl))
  f36 := Tryz.func118.trans (congrArg some (by kernel_rfl))
  f37 := Tryz.func119.trans (congrArg some (by kernel_rfl))
  f38 := Tryz.func120.trans (congrArg some (by kernel_rfl))
  f39 := Tryz.func121.trans (congrArg some (by kernel_rfl))
  f40 := Tryz.func122.trans (congrArg some (by kernel_rfl))
  t0 := Tryz.underlying0
  a0 := Tryz.isAgg0
  z0 := Tryz.sizeOf0
  v0 := Tryz.zeroValue0
  i0 := by kernel_rfl
  t2 := Tryz.underlying2
  a2 := Tryz.isAgg2
  z2 := Tryz.sizeOf2
  v2 := Tryz.zeroValue2
  i2 := by kernel_rfl
  t3 := Tryz.underlying3
  a3 := Tryz.isAgg3
  z3 := Tryz.sizeOf3
  v3 := Tryz.zeroValue3
  i3 := by kernel_rfl
  t4 := Tryz.underlying4
  a4 := Tryz.isAgg4
  z4 := Tryz.sizeOf4
  v4 := Tryz.zeroValue4
  i4 := by kernel_rfl
  t5 := Tryz.underlying5
  a5 := Tryz.isAgg5
  z5 := Tryz.sizeOf5
  v5 := Tryz.zeroValue5
  i5 := by kernel_rfl
  t9 := Tryz.underlying9
  a9 := Tryz.isAgg9
  z9 := Tryz.sizeOf9
  v9 := Tryz.zeroValue9
  i9 := by kernel_rfl
  t20 := Tryz.underlying20
  a20 := Tryz.isAgg20
  z20 := Tryz.sizeOf20
  v20 := Tryz.zeroValue20
  i20 := by kernel_rfl
  t22 := Tryz.underlying65
  a22 := Tryz.isAgg65
  z22 := Tryz.sizeOf65
  v22 := Tryz.zeroValue65
  i22 := by kernel_rfl
  t24 := Tryz.underlying67
  a24 := Tryz.isAgg67
  z24 := Tryz.sizeOf67
  v24 := Tryz.zeroValue67
  i24 := by kernel_rfl
  t34 := Tryz.underlying114
  a34 := Tryz.isAgg114
  z34 := Tryz.sizeOf114
  v34 := Tryz.zeroValue114
  i34 := by kernel_rfl
  c34 := by kernel_rfl
  t36 := Tryz.underlying79
  a36 := Tryz.isAgg79
  z36 := Tryz.sizeOf79
  v36 := Tryz.zeroValue79
  i36 := by kernel_rfl
  t37 := Tryz.underlying77
  a37 := Tryz.isAgg77
  z37 := Tryz.sizeOf77
  v37 := Tryz.zeroValue77
  i37 := by kernel_rfl
  t39 := Tryz.underlying116
  a39 := Tryz.isAgg116
  z39 := Tryz.sizeOf116
  v39 := Tryz.zeroValue116
  i39 := by kernel_rfl
  t44 := Tryz.underlying129
  a44 := Tryz.isAgg129
  z44 := Tryz.sizeOf129
  v44 := Tryz.zeroValue129
  i44 := by kernel_rfl
  t47 := Tryz.underlying109
  a47 := Tryz.isAgg109
  z47 := Tryz.sizeOf109
  v47 := Tryz.zeroValue109
  i47 := by kernel_rfl
  t48 := Tryz.underlying136
  a48 := Tryz.isAgg136
  z48 := Tryz.sizeOf136
  v48 := Tryz.zeroValue136
  i48 := by kernel_rfl
  t50 := Tryz.underlying138
  a50 := Tryz.isAgg138
  z50 := Tryz.sizeOf138
  v50 := Tryz.zeroValue138
  i50 := by kernel_rfl
  t52 := Tryz.underlying144
  a52 := Tryz.isAgg144
  z52 := Tryz.sizeOf144
  v52 := Tryz.zeroValue144
  i52 := by kernel_rfl
  t55 := Tryz.underlying147
  a55 := Tryz.isAgg147
  z55 := Tryz.sizeOf147
  v55 := Tryz.zeroValue147
  i55 := by kernel_rfl
  t59 := Tryz.underlying150
  a59 := Tryz.isAgg150
  z59 := Tryz.sizeOf150
  v59 := Tryz.zeroValue150
  i59 := by kernel_rfl
  t60 := Tryz.underlying140
  a60 := Tryz.isAgg140
  z60 := Tryz.sizeOf140
  v60 := Tryz.zeroValue140
  i60 := by kernel_rfl
  t61 := Tryz.underlying151
  a61 := Tryz.isAgg151
  z61 := Tryz.sizeOf151
  t65 := Tryz.underlying155
  a65 := Tryz.isAgg155
  z65 := Tryz.sizeOf155
  v65 := Tryz.zeroValue155
  i65 := by kernel_rfl
  t66 := Tryz.underlying156
  a66 := Tryz.isAgg156
  z66 := Tryz.sizeOf156
  v66 := Tryz.zeroValue156
  i66 := by kernel_rfl
  t67 := Tryz.underlying91
  a67 := Tryz.isAgg91
  z67 := Tryz.sizeOf91
  v67 := Tryz.zeroValue91
  i67 := by kernel_rfl
  g0 := by kernel_rfl
  m0 := by kernel_rfl
  g1 := by kernel_rfl
  m1 := by kernel_rfl
  g2 := by kernel_rfl
  m2 := by kernel_rfl
  g3 := by kernel_rfl
  m3 := by kernel_rfl
  g4 := by kernel_rfl
  m4 := by kernel_rfl }

open Go.RowKit
theorem toerr_syntax (fn s : ByteArray) (base bits : Int) (w : World) (hs : s.size ≤ 1000000) (hE : Errs w) :
    Calls Tryz.prog 68 #[.string fn, .string s, .int .i64 base, .int .i64 bits, .iface 114 (.int .i64 2)] w fun e w' => (∃ t p, e = .returned (.iface t p)) ∧ Below w.heap.size w w' := by
  obtain ⟨⟨te, pe, h⟩, _⟩ := hE
  exact (AnyPu.strconv_toError_syntax laysPu17 fn s base bits _ w (by omega) h (.inr ⟨te, pe, rfl⟩)).mono fun e w' ⟨N, h1, _, _, h2⟩ => ⟨⟨_, _, h1⟩, h2⟩
theorem toerr_range (fn s : ByteArray) (base bits : Int) (w : World) (hs : s.size ≤ 1000000) (hE : Errs w) :
    Calls Tryz.prog 68 #[.string fn, .string s, .int .i64 base, .int .i64 bits, .iface 114 (.int .i64 1)] w fun e w' => (∃ t p, e = .returned (.iface t p)) ∧ Below w.heap.size w w' := by
  obtain ⟨_, te, pe, h⟩ := hE
  exact (AnyPu.strconv_toError_range laysPu17 fn s base bits _ w (by omega) h (.inr ⟨te, pe, rfl⟩)).mono fun e w' ⟨N, h1, _, _, h2⟩ => ⟨⟨_, _, h1⟩, h2⟩
end Go.Proofs.YtognifnalfjdgaaGreatDoor

/- What is proved: what strconv's ParseUint tells of digits of 8, 10 or 16, in 63 bits. -/
namespace Go.Proofs.YtognifnalfjdgaaGreatDoor
open Go.RowKit Go.Shelf

namespace Ie
/-- What comes of digits: a number, no digits, too great. -/
inductive PR
  | ok (n : Nat)
  | syn
  | rng
def pu (b : Nat) : Nat → List UInt8 → PR
  | acc, [] => .ok acc
  | acc, c :: r => if dig c < b then (if most < acc * b + dig c then .rng else pu b (acc * b + dig c) r) else .syn
def prV : PR → Int
  | .ok n => n
  | .syn => 0
  | .rng => 9223372036854775807
end Ie
def prE : Ie.PR → Value
  | .ok _ => .nilIface
  | .syn => .iface 114 (.int .i64 2)
  | .rng => .iface 114 (.int .i64 1)

/-- The bit 32 set. -/
def lowB (c : UInt8) : Int := bits .or .u8 c.toNat 32
theorem low_cases : ∀ c : UInt8, (0 ≤ lowB c ∧ lowB c ≤ 255) ∧
    ((48 ≤ c.toNat ∧ c.toNat ≤ 57 ∧ Ie.dig c = c.toNat - 48) ∨ (¬ (48 ≤ c.toNat ∧ c.toNat ≤ 57) ∧ c.toNat ≠ 95 ∧ 97 ≤ lowB c ∧ lowB c ≤ 102 ∧ (Ie.dig c : Int) = lowB c - 87) ∨
     (¬ (48 ≤ c.toNat ∧ c.toNat ≤ 57) ∧ c.toNat ≠ 95 ∧ 103 ≤ lowB c ∧ lowB c ≤ 122 ∧ 16 ≤ Ie.dig c) ∨ (¬ (48 ≤ c.toNat ∧ c.toNat ≤ 57) ∧ ¬ (97 ≤ lowB c ∧ lowB c ≤ 122) ∧ 16 ≤ Ie.dig c)) := by
  have key : ∀ n : Fin 256, (0 ≤ lowB (UInt8.ofNat n.val) ∧ lowB (UInt8.ofNat n.val) ≤ 255) ∧
    ((48 ≤ (UInt8.ofNat n.val).toNat ∧ (UInt8.ofNat n.val).toNat ≤ 57 ∧ Ie.dig (UInt8.ofNat n.val) = (UInt8.ofNat n.val).toNat - 48) ∨ (¬ (48 ≤ (UInt8.ofNat n.val).toNat ∧ (UInt8.ofNat n.val).toNat ≤ 57) ∧ (UInt8.ofNat n.val).toNat ≠ 95 ∧ 97 ≤ lowB (UInt8.ofNat n.val) ∧ lowB (UInt8.ofNat n.val) ≤ 102 ∧ (Ie.dig (UInt8.ofNat n.val) : Int) = lowB (UInt8.ofNat n.val) - 87) ∨
     (¬ (48 ≤ (UInt8.ofNat n.val).toNat ∧ (UInt8.ofNat n.val).toNat ≤ 57) ∧ (UInt8.ofNat n.val).toNat ≠ 95 ∧ 103 ≤ lowB (UInt8.ofNat n.val) ∧ lowB (UInt8.ofNat n.val) ≤ 122 ∧ 16 ≤ Ie.dig (UInt8.ofNat n.val)) ∨ (¬ (48 ≤ (UInt8.ofNat n.val).toNat ∧ (UInt8.ofNat n.val).toNat ≤ 57) ∧ ¬ (97 ≤ lowB (UInt8.ofNat n.val) ∧ lowB (UInt8.ofNat n.val) ≤ 122) ∧ 16 ≤ Ie.dig (UInt8.ofNat n.val))) := by decide +kernel
  intro c
  have h := key ⟨c.toNat, c.toNat_lt⟩
  simpa using h

theorem lower_any (c : UInt8) (w : World) : Calls Tryz.prog 83 #[.int .u8 c.toNat] w fun e w' => e = .returned (.int .u8 (lowB c)) ∧ w' = w := by
  go_enter Tryz.func83, Tryz.ntmps83
  go_wp2_with fail
  go_ret
  exact ⟨rfl, rfl⟩
def PuPost (w : World) (r : Ie.PR) (e : Ending) (w' : World) : Prop := e = .returned (.tuple #[.int .u64 (Ie.prV r), prE r]) ∧ Below w.heap.size w w'
theorem bytes_below (w : World) (t : ByteArray) (e : TypeId) : Below w.heap.size w (Lib.bytesWorld w e t) :=
  ⟨rfl, rfl, rfl, by rw [Lib.bytesWorld_size]; omega, fun k hk => Lib.bytesWorld_at_old w e t k hk⟩

set_option maxRecDepth 100000 in
theorem pu_empty (b : Int) (w : World) : Calls Tryz.prog 67 #[.string ⟨#[]⟩, .int .i64 b, .int .i64 63] w (PuPost w .syn) := by
  have e0 : ((⟨#[]⟩ : ByteArray).toList == []) = true := lit_yes rfl
  go_enter Tryz.func67, Tryz.ntmps67
  go_wp2_with fail
  go_ret2
  exact ⟨rfl, Below.refl _ _⟩
end Go.Proofs.YtognifnalfjdgaaGreatDoor

/- Plain facts: a number's digits and suffix, as the program parts them, and as the document says. -/
namespace Go.Proofs.YtognifnalfjdgaaGreatDoor
namespace Ie

def dU : List UInt8 → Option (List UInt8)
  | [] => none
  | c :: t => if c = 117 then some t else if c = 85 then some t else none
def dL : List UInt8 → List UInt8
  | [] => []
  | [c] => if c = 108 then [] else if c = 76 then [] else [c]
  | c :: d :: t => if c = 108 ∧ d = 108 then t else if c = 76 ∧ d = 76 then t else if c = 108 then d :: t else if c = 76 then d :: t else c :: d :: t
/-- A number without its suffix, both turned round. -/
def rb (r : List UInt8) : List UInt8 :=
  match dU r with
  | some t => dL t
  | none => (dU (dL r)).getD (dL r)
def bare (l : List UInt8) : List UInt8 := (rb l.reverse).reverse
def isUL (c : UInt8) : Bool := c == 117 || (c == 85 || (c == 108 || c == 76))
def plainHead : List UInt8 → Bool
  | [] => true
  | c :: _ => !isUL c

theorem dU_plain {q : List UInt8} (h : plainHead q = true) : dU q = none := by
  cases q with
  | nil => rfl
  | cons c t =>
    simp only [plainHead, isUL, Bool.not_eq_true', Bool.or_eq_false_iff, beq_eq_false_iff_ne] at h
    show (if c = 117 then _ else _) = _
    rw [if_neg h.1, if_neg h.2.1]
theorem dL_plain {q : List UInt8} (h : plainHead q = true) : dL q = q := by
  cases q with
  | nil => rfl
  | cons c t =>
    simp only [plainHead, isUL, Bool.not_eq_true', Bool.or_eq_false_iff, beq_eq_false_iff_ne] at h
    obtain ⟨_, _, h3, h4⟩ := h
    cases t with
    | nil => show (if c = 108 then _ else _) = _; rw [if_neg h3, if_neg h4]
    | cons d t => show (if c = 108 ∧ d = 108 then _ else _) = _; rw [if_neg (fun h => h3 h.1), if_neg (fun h => h4 h.1), if_neg h3, if_neg h4]
theorem dL_one {q : List UInt8} (h : plainHead q = true) (c : UInt8) (hc : c = 108 ∨ c = 76) : dL (c :: q) = q := by
  cases q with
  | nil => rcases hc with rfl | rfl <;> rfl
  | cons d t =>
    simp only [plainHead, isUL, Bool.not_eq_true', Bool.or_eq_false_iff, beq_eq_false_iff_ne] at h
    obtain ⟨_, _, h3, h4⟩ := h
    show (if c = 108 ∧ d = 108 then _ else _) = _
    rw [if_neg (fun h => h3 h.2), if_neg (fun h => h4 h.2)]
    rcases hc with rfl | rfl <;> rfl
theorem dL_two (q : List UInt8) (c : UInt8) (hc : c = 108 ∨ c = 76) : dL (c :: c :: q) = q := by
  rcases hc with rfl | rfl <;> rfl
theorem dL_u (q : List UInt8) (c : UInt8) (hc : c = 117 ∨ c = 85) : dL (c :: q) = c :: q := by
  cases q with
  | nil => rcases hc with rfl | rfl <;> rfl
  | cons d t => rcases hc with rfl | rfl <;> rfl
theorem dU_u (q : List UInt8) (c : UInt8) (hc : c = 117 ∨ c = 85) : dU (c :: q) = some q := by rcases hc with rfl | rfl <;> rfl
theorem dU_l (q : List UInt8) (c : UInt8) (hc : c = 108 ∨ c = 76) : dU (c :: q) = none := by rcases hc with rfl | rfl <;> rfl
/-- The forms that a suffix has, turned round. -/
theorem sfx_forms {s : List UInt8} (h : isSfx s = true) : s.reverse = [] ∨ (∃ u, (u = 117 ∨ u = 85) ∧ s.reverse = [u]) ∨ (∃ l, (l = 108 ∨ l = 76) ∧ (s.reverse = [l] ∨ s.reverse = [l, l])) ∨
    (∃ u l, (u = 117 ∨ u = 85) ∧ (l = 108 ∨ l = 76) ∧ (s.reverse = [u, l] ∨ s.reverse = [u, l, l] ∨ s.reverse = [l, u] ∨ s.reverse = [l, l, u])) := by
  have hm : s ∈ sfxs := by simpa [isSfx] using h
  simp only [sfxs, List.mem_cons, List.not_mem_nil, or_false] at hm
  rcases hm with rfl | rfl | rfl | rfl | rfl | rfl | rfl | rfl | rfl | rfl | rfl | rfl | rfl | rfl | rfl | rfl | rfl | rfl | rfl | rfl | rfl | rfl | rfl
  · exact .inl rfl
  · exact .inr (.inl ⟨117, (.inl rfl), rfl⟩)
  · exact .inr (.inl ⟨85, (.inr rfl), rfl⟩)
  · exact .inr (.inr (.inl ⟨108, (.inl rfl), .inl rfl⟩))
  · exact .inr (.inr (.inl ⟨76, (.inr rfl), .inl rfl⟩))
  · exact .inr (.inr (.inl ⟨108, (.inl rfl), .inr rfl⟩))
  · exact .inr (.inr (.inl ⟨76, (.inr rfl), .inr rfl⟩))
  · exact .inr (.inr (.inr ⟨117, 108, (.inl rfl), (.inl rfl), .inr (.inr (.inl rfl))⟩))
  · exact .inr (.inr (.inr ⟨117, 76, (.inl rfl), (.inr rfl), .inr (.inr (.inl rfl))⟩))
  · exact .inr (.inr (.inr ⟨117, 108, (.inl rfl), (.inl rfl), .inr (.inr (.inr rfl))⟩))
  · exact .inr (.inr (.inr ⟨117, 76, (.inl rfl), (.inr rfl), .inr (.inr (.inr rfl))⟩))
  · exact .inr (.inr (.inr ⟨85, 108, (.inr rfl), (.inl rfl), .inr (.inr (.inl rfl))⟩))
  · exact .inr (.inr (.inr ⟨85, 76, (.inr rfl), (.inr rfl), .inr (.inr (.inl rfl))⟩))
  · exact .inr (.inr (.inr ⟨85, 108, (.inr rfl), (.inl rfl), .inr (.inr (.inr rfl))⟩))
  · exact .inr (.inr (.inr ⟨85, 76, (.inr rfl), (.inr rfl), .inr (.inr (.inr rfl))⟩))
  · exact .inr (.inr (.inr ⟨117, 108, (.inl rfl), (.inl rfl), .inl rfl⟩))
  · exact .inr (.inr (.inr ⟨85, 108, (.inr rfl), (.inl rfl), .inl rfl⟩))
  · exact .inr (.inr (.inr ⟨117, 76, (.inl rfl), (.inr rfl), .inl rfl⟩))
  · exact .inr (.inr (.inr ⟨85, 76, (.inr rfl), (.inr rfl), .inl rfl⟩))
  · exact .inr (.inr (.inr ⟨117, 108, (.inl rfl), (.inl rfl), .inr (.inl rfl)⟩))
  · exact .inr (.inr (.inr ⟨85, 108, (.inr rfl), (.inl rfl), .inr (.inl rfl)⟩))
  · exact .inr (.inr (.inr ⟨117, 76, (.inl rfl), (.inr rfl), .inr (.inl rfl)⟩))
  · exact .inr (.inr (.inr ⟨85, 76, (.inr rfl), (.inr rfl), .inr (.inl rfl)⟩))
theorem rb_of {s q : List UInt8} (h : isSfx s = true) (hq : plainHead q = true) : rb (s.reverse ++ q) = q := by
  unfold rb
  rcases sfx_forms h with e | ⟨u, hu, e⟩ | ⟨l, hl, e | e⟩ | ⟨u, l, hu, hl, e | e | e | e⟩ <;> rw [e]
  · rw [List.nil_append, dU_plain hq]; dsimp only; rw [dL_plain hq, dU_plain hq]; rfl
  · rw [List.singleton_append, dU_u q u hu]; exact dL_plain hq
  · rw [List.singleton_append, dU_l q l hl]; dsimp only; rw [dL_one hq l hl, dU_plain hq]; rfl
  · show (match dU (l :: l :: q) with | some t => dL t | none => (dU (dL (l :: l :: q))).getD (dL (l :: l :: q))) = q
    rw [dU_l _ l hl]; dsimp only; rw [dL_two q l hl, dU_plain hq]; rfl
  · show (match dU (u :: l :: q) with | some t => dL t | none => (dU (dL (u :: l :: q))).getD (dL (u :: l :: q))) = q
    rw [dU_u _ u hu]; exact dL_one hq l hl
  · show (match dU (u :: l :: l :: q) with | some t => dL t | none => (dU (dL (u :: l :: l :: q))).getD (dL (u :: l :: l :: q))) = q
    rw [dU_u _ u hu]; exact dL_two q l hl
  · show (match dU (l :: u :: q) with | some t => dL t | none => (dU (dL (l :: u :: q))).getD (dL (l :: u :: q))) = q
    rw [dU_l _ l hl]; dsimp only
    have e1 : dL (l :: u :: q) = u :: q := by rcases hl with rfl | rfl <;> rcases hu with rfl | rfl <;> rfl
    rw [e1, dU_u q u hu]; rfl
  · show (match dU (l :: l :: u :: q) with | some t => dL t | none => (dU (dL (l :: l :: u :: q))).getD (dL (l :: l :: u :: q))) = q
    rw [dU_l _ l hl]; dsimp only; rw [dL_two (u :: q) l hl, dU_u q u hu]; rfl
theorem dL_parts (r : List UInt8) : ∃ s, r = s ++ dL r ∧ (s = [] ∨ ∃ l, (l = 108 ∨ l = 76) ∧ (s = [l] ∨ s = [l, l])) := by
  by_cases hp : plainHead r = true
  · exact ⟨[], by rw [dL_plain hp]; rfl, .inl rfl⟩
  match r with
  | [] => exact absurd rfl hp
  | c :: t =>
    by_cases hc : c = 108 ∨ c = 76
    · cases t with
      | nil => exact ⟨[c], by rcases hc with rfl | rfl <;> rfl, .inr ⟨c, hc, .inl rfl⟩⟩
      | cons d t =>
        by_cases hd : d = c
        · subst hd
          exact ⟨[d, d], by rw [dL_two t d hc]; rfl, .inr ⟨d, hc, .inr rfl⟩⟩
        · have e : dL (c :: d :: t) = d :: t := by
            rcases hc with rfl | rfl
            · show (if (108 : UInt8) = 108 ∧ d = 108 then t else _) = _
              rw [if_neg (fun h => hd h.2)]; rfl
            · show (if (76 : UInt8) = 108 ∧ d = 108 then t else if (76 : UInt8) = 76 ∧ d = 76 then t else _) = _
              rw [if_neg (fun h => absurd h.1 (by decide)), if_neg (fun h => hd h.2)]; rfl
          exact ⟨[c], by rw [e]; rfl, .inr ⟨c, hc, .inl rfl⟩⟩
    · have hu : c = 117 ∨ c = 85 := by
        have h1 : isUL c = true := by
          cases h : isUL c with
          | true => rfl
          | false => exact absurd (show (!isUL c) = true by rw [h]; rfl) hp
        simp only [isUL, Bool.or_eq_true, beq_iff_eq] at h1
        rcases h1 with h | h | h | h
        · exact .inl h
        · exact .inr h
        · exact absurd (.inl h) hc
        · exact absurd (.inr h) hc
      exact ⟨[], by rw [dL_u t c hu]; rfl, .inl rfl⟩
theorem dU_parts {r t : List UInt8} (h : dU r = some t) : ∃ u, (u = 117 ∨ u = 85) ∧ r = u :: t := by
  cases r with
  | nil => cases h
  | cons c r =>
    have h' : (if c = 117 then some r else if c = 85 then some r else none) = some t := h
    by_cases h1 : c = 117
    · rw [if_pos h1] at h'
      exact ⟨c, .inl h1, by rw [Option.some.inj h']⟩
    · rw [if_neg h1] at h'
      by_cases h2 : c = 85
      · rw [if_pos h2] at h'
        exact ⟨c, .inr h2, by rw [Option.some.inj h']⟩
      · rw [if_neg h2] at h'
        cases h'
theorem rb_parts (r : List UInt8) : ∃ s, r = s ++ rb r ∧ isSfx s.reverse = true := by
  unfold rb
  cases hu : dU r with
  | some t =>
    obtain ⟨u, h1, rfl⟩ := dU_parts hu
    obtain ⟨s, hs, hf⟩ := dL_parts t
    refine ⟨u :: s, by dsimp only; rw [List.cons_append, ← hs], ?_⟩
    rcases hf with rfl | ⟨l, hl, rfl | rfl⟩
    · rcases h1 with rfl | rfl <;> decide
    · rcases h1 with rfl | rfl <;> rcases hl with rfl | rfl <;> decide
    · rcases h1 with rfl | rfl <;> rcases hl with rfl | rfl <;> decide
  | none =>
    obtain ⟨s, hs, hf⟩ := dL_parts r
    dsimp only
    cases hv : dU (dL r) with
    | none =>
      refine ⟨s, hs, ?_⟩
      rcases hf with rfl | ⟨l, hl, rfl | rfl⟩
      · decide
      · rcases hl with rfl | rfl <;> decide
      · rcases hl with rfl | rfl <;> decide
    | some t =>
      obtain ⟨u, h1, h2⟩ := dU_parts hv
      refine ⟨s ++ [u], ?_, ?_⟩
      · show r = (s ++ [u]) ++ t
        rw [List.append_assoc, List.singleton_append, ← h2]
        exact hs
      · rcases hf with rfl | ⟨l, hl, rfl | rfl⟩
        · rcases h1 with rfl | rfl <;> decide
        · rcases h1 with rfl | rfl <;> rcases hl with rfl | rfl <;> decide
        · rcases h1 with rfl | rfl <;> rcases hl with rfl | rfl <;> decide
theorem bare_parts (l : List UInt8) : ∃ s, l = bare l ++ s ∧ isSfx s = true := by
  obtain ⟨s, h1, h2⟩ := rb_parts l.reverse
  refine ⟨s.reverse, ?_, h2⟩
  have := congrArg List.reverse h1
  rw [List.reverse_reverse, List.reverse_append] at this
  exact this
theorem bare_of {p s : List UInt8} (h : isSfx s = true) (hp : ∀ c, p.getLast? = some c → isUL c = false) : bare (p ++ s) = p := by
  unfold bare
  rw [List.reverse_append, rb_of h, List.reverse_reverse]
  cases hq : p.reverse with
  | nil => rfl
  | cons c t =>
    have : p.getLast? = some c := by rw [List.getLast?_eq_head?_reverse, hq]; rfl
    show (!isUL c) = true
    rw [hp c this]; rfl

/-! Digits. -/
def vf (b : Nat) (acc : Nat) (l : List UInt8) : Nat := l.foldl (fun n c => n * b + dig c) acc
theorem vf_ge (b : Nat) (hb : 1 ≤ b) : ∀ (l : List UInt8) (acc : Nat), acc ≤ vf b acc l
  | [], _ => Nat.le_refl _
  | c :: r, acc => by
    have h := vf_ge b hb r (acc * b + dig c)
    have : acc * 1 ≤ acc * b := Nat.mul_le_mul_left acc hb
    show acc ≤ vf b (acc * b + dig c) r
    omega
theorem pu_some (b : Nat) (hb : 1 ≤ b) : ∀ (l : List UInt8) (acc : Nat), (∀ c ∈ l, dig c < b) → vf b acc l ≤ most → pu b acc l = .ok (vf b acc l)
  | [], _, _, _ => rfl
  | c :: r, acc, h, hm => by
    have h1 := vf_ge b hb r (acc * b + dig c)
    have hm' : vf b (acc * b + dig c) r ≤ most := hm
    show (if dig c < b then (if most < acc * b + dig c then PR.rng else pu b (acc * b + dig c) r) else .syn) = _
    rw [if_pos (h c List.mem_cons_self), if_neg (by omega)]
    exact pu_some b hb r _ (fun x hx => h x (List.mem_cons_of_mem _ hx)) hm'
theorem pu_ok (b : Nat) : ∀ (l : List UInt8) (acc n : Nat), acc ≤ most → pu b acc l = .ok n → (∀ c ∈ l, dig c < b) ∧ vf b acc l = n ∧ n ≤ most
  | [], acc, n, ha, h => by
    have : acc = n := by injection h
    exact ⟨fun c hc => by simp at hc, this, by omega⟩
  | c :: r, acc, n, ha, h => by
    have h' : (if dig c < b then (if most < acc * b + dig c then PR.rng else pu b (acc * b + dig c) r) else .syn) = .ok n := h
    split at h'
    · rename_i hd
      split at h'
      · cases h'
      · rename_i hm
        obtain ⟨h1, h2, h3⟩ := pu_ok b r _ n (by omega) h'
        refine ⟨fun x hx => ?_, h2, h3⟩
        rcases List.mem_cons.1 hx with rfl | hx
        · exact hd
        · exact h1 x hx
    · cases h'
/-- What the program makes of a number. -/
def puTop (b : Nat) (l : List UInt8) : PR := if l = [] then .syn else pu b 0 l
def prO : PR → Option Nat
  | .ok n => some n
  | _ => none
def numP (l : List UInt8) : Option Nat := prO (puTop (start (bare l)).2 ((bare l).drop (start (bare l)).1))

theorem start_base (l : List UInt8) : ((start l).2 = 10 ∨ (start l).2 = 8 ∨ (start l).2 = 16) ∧ (start l).1 ≤ l.length := by
  unfold start
  split
  · exact ⟨.inl rfl, Nat.zero_le _⟩
  · split
    · exact ⟨.inr (.inl rfl), Nat.zero_le _⟩
    · exact ⟨.inl rfl, Nat.zero_le _⟩
  · split
    · split
      · exact ⟨.inr (.inr rfl), by simp⟩
      · exact ⟨.inr (.inl rfl), Nat.zero_le _⟩
    · exact ⟨.inl rfl, Nat.zero_le _⟩
theorem sfx_head {s : List UInt8} (h : isSfx s = true) : ∀ c r, s = c :: r → isUL c = true := by
  have hm : s ∈ sfxs := by simpa [isSfx] using h
  have key : ∀ s ∈ sfxs, ∀ c r, s = c :: r → isUL c = true := by
    intro s hs c r e
    subst e
    simp only [sfxs, List.mem_cons, List.not_mem_nil, or_false, List.cons.injEq, reduceCtorEq, false_or] at hs
    rcases hs with h | h | h | h | h | h | h | h | h | h | h | h | h | h | h | h | h | h | h | h | h | h <;> rw [h.1] <;> decide
  exact key s hm
theorem ul_dig {c : UInt8} (h : isUL c = true) : dig c = 99 := by
  simp only [isUL, Bool.or_eq_true, beq_iff_eq] at h
  rcases h with rfl | rfl | rfl | rfl <;> rfl
theorem dig_ul {c : UInt8} (h : dig c < 16) : isUL c = false := by
  cases hc : isUL c with
  | false => rfl
  | true => have := ul_dig hc; omega
theorem start_app {p s : List UInt8} (hp : p ≠ []) (hs : isSfx s = true) : start (p ++ s) = start p := by
  match p, hp with
  | [c], _ =>
    cases s with
    | nil => rfl
    | cons d s =>
      have hd := sfx_head hs d s rfl
      show (if c = 48 then (if d = 120 ∨ d = 88 then (2, 16) else (0, 8)) else (0, 10)) = if c = 48 then (0, 8) else (0, 10)
      rw [if_neg (c := d = 120 ∨ d = 88)]
      rintro (rfl | rfl)
      · exact absurd hd (by decide)
      · exact absurd hd (by decide)
  | c :: d :: t, _ => rfl
theorem takeWhile_app (q : UInt8 → Bool) : ∀ (D s : List UInt8), (∀ c ∈ D, q c = true) → (∀ c r, s = c :: r → q c = false) → (D ++ s).takeWhile q = D
  | [], [], _, _ => rfl
  | [], c :: s, _, h => by
    rw [List.nil_append, List.takeWhile_cons, if_neg (by rw [h c s rfl]; decide)]
  | c :: D, s, h, h' => by
    rw [List.cons_append, List.takeWhile_cons, if_pos (h c List.mem_cons_self)]
    exact congrArg (c :: ·) (takeWhile_app q D s (fun x hx => h x (List.mem_cons_of_mem _ hx)) h')
theorem mem_tw (q : UInt8 → Bool) : ∀ (l : List UInt8), ∀ c ∈ l.takeWhile q, q c = true
  | [], c, h => by cases h
  | a :: l, c, h => by
    rw [List.takeWhile_cons] at h
    split at h
    · rename_i ha
      rcases List.mem_cons.1 h with rfl | h
      · exact ha
      · exact mem_tw q l c h
    · cases h

theorem num_of {l : List UInt8} {n : Nat} (h : numP l = some n) : number l = some n := by
  obtain ⟨s, hl, hs⟩ := bare_parts l
  unfold numP at h
  obtain ⟨p, hp⟩ : ∃ p, p = bare l := ⟨_, rfl⟩
  rw [← hp] at h hl
  obtain ⟨hb, hk⟩ := start_base p
  obtain ⟨D, hD⟩ : ∃ D, D = p.drop (start p).1 := ⟨_, rfl⟩
  rw [← hD] at h
  have hD0 : D ≠ [] := fun e => by rw [e] at h; cases h
  have hp0 : p ≠ [] := fun e => by rw [e] at hD; exact hD0 (by rw [hD]; rfl)
  have h1 : pu (start p).2 0 D = .ok n := by
    unfold puTop at h
    rw [if_neg hD0] at h
    cases hq : pu (start p).2 0 D with
    | ok m => rw [hq] at h; injection h with h; rw [h]
    | syn => rw [hq] at h; cases h
    | rng => rw [hq] at h; cases h
  obtain ⟨h2, h3, h4⟩ := pu_ok _ D 0 n (Nat.zero_le _) h1
  have hst : start l = start p := by rw [hl]; exact start_app hp0 hs
  have hr : l.drop (start p).1 = D ++ s := by rw [hl, List.drop_append_of_le_length hk, ← hD]
  have hds : digs (start p).2 (D ++ s) = D := takeWhile_app _ D s (fun c hc => decide_eq_true (h2 c hc)) fun c r e => by
    have := ul_dig (sfx_head hs c r e)
    rw [this]
    rcases hb with e | e | e <;> rw [e] <;> rfl
  unfold number
  rw [hst]
  dsimp only
  rw [hr, hds, if_neg hD0, List.drop_left, hs]
  have hv : val (start p).2 D = n := h3
  rw [hv, if_neg (by decide), if_neg (by omega)]
theorem num_to {l : List UInt8} {n : Nat} (h : number l = some n) : numP l = some n := by
  unfold number at h
  obtain ⟨hb, hk⟩ := start_base l
  obtain ⟨b, hbb⟩ : ∃ b, b = (start l).2 := ⟨_, rfl⟩
  obtain ⟨k, hkk⟩ : ∃ k, k = (start l).1 := ⟨_, rfl⟩
  rw [← hbb] at hb h
  rw [← hkk] at hk h
  dsimp only at h
  obtain ⟨D, hD⟩ : ∃ D, D = digs b (l.drop k) := ⟨_, rfl⟩
  rw [← hD] at h
  split at h
  · cases h
  rename_i hD0
  split at h
  · cases h
  rename_i hs
  split at h
  · cases h
  rename_i hm
  injection h with h
  obtain ⟨s, hss⟩ : ∃ s, s = (l.drop k).drop D.length := ⟨_, rfl⟩
  rw [← hss] at hs
  have hs' : isSfx s = true := by simpa using hs
  have hr : l.drop k = D ++ s := by
    have h1 : D = (l.drop k).take D.length := by
      rw [hD]
      unfold digs
      exact List.prefix_iff_eq_take.1 (List.takeWhile_prefix _)
    calc l.drop k = (l.drop k).take D.length ++ (l.drop k).drop D.length := (List.take_append_drop _ _).symm
      _ = D ++ s := by rw [← h1, ← hss]
  have hdig : ∀ c ∈ D, dig c < b := fun c hc => by
    have := mem_tw _ _ c (by rw [hD] at hc; exact hc)
    simpa using this
  have hl : l = (l.take k ++ D) ++ s := by rw [List.append_assoc, ← hr, List.take_append_drop]
  have hbare : bare l = l.take k ++ D := by
    have e2 : bare ((l.take k ++ D) ++ s) = l.take k ++ D := ?_
    · rw [← hl] at e2
      exact e2
    refine bare_of hs' ?_
    intro c hc
    refine dig_ul ?_
    have hcD : c ∈ D := by
      rw [List.getLast?_append] at hc
      cases hx : D.getLast? with
      | none => exact absurd (List.getLast?_eq_none_iff.1 hx) hD0
      | some d =>
        rw [hx] at hc
        have : d = c := by simpa using hc
        rw [← this]
        exact List.mem_of_getLast? hx
    have := hdig c hcD
    rcases hb with e | e | e <;> omega
  have hp0 : l.take k ++ D ≠ [] := fun e => hD0 (List.append_eq_nil_iff.1 e).2
  have hst : start (l.take k ++ D) = start l := by
    have := start_app hp0 hs'
    rw [← hl] at this
    exact this.symm
  unfold numP
  rw [hbare, hst, ← hbb, ← hkk]
  have hdr : (l.take k ++ D).drop k = D := by
    have e : (l.take k).length = k := by rw [List.length_take]; omega
    rw [List.drop_append, e, Nat.sub_self, List.drop_zero, List.drop_eq_nil_of_le (by omega), List.nil_append]
  rw [hdr]
  unfold puTop
  rw [if_neg hD0]
  have hv : vf b 0 D = n := h
  have h1 := pu_some b (by rcases hb with e | e | e <;> omega) D 0 hdig (by rw [hv]; rw [h] at hm; omega)
  rw [h1, hv]
  rfl
theorem num_eq (l : List UInt8) : numP l = number l := by
  cases h : number l with
  | some n => exact num_to h
  | none =>
    cases h' : numP l with
    | none => rfl
    | some n => rw [num_of h'] at h; cases h
end Ie
end Go.Proofs.YtognifnalfjdgaaGreatDoor
