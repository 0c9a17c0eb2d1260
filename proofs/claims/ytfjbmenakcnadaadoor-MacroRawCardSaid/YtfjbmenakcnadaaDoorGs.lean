/- What is proved: what the document's own Define tells where there is more than a name. (and what stands with it) -/
import Derived.Test.YtfjbmenakcnadaaDoorGr

/- What is proved: what the document's own Define tells where there is more than a name. -/
namespace Go.Proofs.YtfjbmenakcnadaaDoor
open Go.RowKit Go.Shelf Go.WideMaps

theorem news6 (w : World) (a b c d e f : Value) (t : TypeId) : ∀ j u, [a, b, c, d, e, f][j]? = some u → (w.alloc (.cells #[a, b, c, d, e, f] t)).cell? ((⟨w.heap.size, 0, none⟩ : Addr).add j) = some u := by
  intro j u hj
  match j, hj with
  | 0, hj => simp at hj; subst hj; simp [Addr.add]
  | 1, hj => simp at hj; subst hj; simp [Addr.add]
  | 2, hj => simp at hj; subst hj; simp [Addr.add]
  | 3, hj => simp at hj; subst hj; simp [Addr.add]
  | 4, hj => simp at hj; subst hj; simp [Addr.add]
  | 5, hj => simp at hj; subst hj; simp [Addr.add]
theorem rows_apart {W : World} {base base' n m sz sz' e e' : Nat} {p v : Value} {xs ys : List Value} (hp : W.ownsRow base e sz p n xs) (hv : W.ownsRow base' e' sz' v m ys) (hne : e ≠ e') : ∀ k, p.ownBlock = some k → v.ownBlock ≠ some k := fun k hk hk' => by
  rcases hp.2 with ⟨h, _⟩ | ⟨g, cap, cur, h, _, h2, _⟩
  · rw [h] at hk; cases hk
  · rw [h] at hk
    simp only [Value.ownBlock, Option.some.injEq] at hk
    subst hk
    exact row_not hv h2 hne hk'
theorem news6' (w : World) (o : Obj) (a b c d e f : Value) (t : TypeId) : ∀ j u, [a, b, c, d, e, f][j]? = some u → ((w.alloc o).alloc (.cells #[a, b, c, d, e, f] t)).cell? ((⟨w.heap.size + 1, 0, none⟩ : Addr).add j) = some u := by
  have := news6 (w.alloc o) a b c d e f t
  simp only [World.size_alloc] at this
  exact this
theorem RD.grow {W W1 : World} {B n : Nat} {nm : ByteArray} {fn va : Bool} {pv bv : Value} {ps : List ByteArray} {xs : List Value} {o1 o2 : Obj} (h : RD W B nm fn pv ps va bv) (hr : W.ownsRow (B + 3) 39 6 bv n xs) (hg : ((W.alloc o1).alloc o2).grownBy W1 bv.ownBlock) : RD W1 B nm fn pv ps va bv := by
  have key : ∀ k, k < W.heap.size → bv.ownBlock ≠ some k → W1.heap[k]? = W.heap[k]? := fun k hk hn =>
    (hg.block k (by simp; omega) (fun e => hn e.symm)).trans ((Below.heap_alloc _ o2 k (by simp; omega)).trans (Below.heap_alloc W o1 k hk))
  have hno : ∀ k, k < B + 3 → bv.ownBlock ≠ some k := fun k hk e => by have := (hr.lt k e).1; omega
  exact ⟨(key _ (lt_of_block h.b0) (hno _ (by omega))).trans h.b0, (key _ (lt_of_block h.b1) (hno _ (by omega))).trans h.b1, (key _ (lt_of_block h.b2) (hno _ (by omega))).trans h.b2,
    row_heap h.prow fun k e => key k (h.prow.lt k e).2 (rows_apart h.prow hr (by decide) k e)⟩
theorem frozen_b2 {W : World} {B : Nat} {nm : ByteArray} {fn va : Bool} {pv bv : Value} {ps : List ByteArray} (h : RD W B nm fn pv ps va bv) (i : Nat) : W.frozen? ⟨B + 1 + 1, i, none⟩ = false := by
  have := h.b2
  simp only [show B + 2 = B + 1 + 1 from rfl] at this
  simp [World.frozen?, this]
theorem RD.setBv {W : World} {B : Nat} {nm : ByteArray} {fn va : Bool} {pv bv : Value} {ps : List ByteArray} (h : RD W B nm fn pv ps va bv) (u : Value) : RD (W.setCell ⟨B + 2, 4, none⟩ u) B nm fn pv ps va u := by
  refine ⟨?_, ?_, by simp [World.setCell, Array.getElem?_modify, h.b2], ownsRow_setCell_below h.prow (by simp) _⟩
  · rw [Below.heap_setCell _ _ _ _ (by simp)]; exact h.b0
  · rw [Below.heap_setCell _ _ _ _ (by simp)]; exact h.b1
theorem ks_take {b : List K} {k : Nat} {x : K} (h : (Mx.bare b)[k]? = some x) : ksCells ((Mx.bare b).take (k + 1)) = ksCells ((Mx.bare b).take k) ++ kCells x := by
  rw [List.take_add_one, h, ksCells_append]
  show _ ++ (kCells x ++ []) = _
  rw [List.append_nil]
theorem RD.fill {W : World} {B : Nat} {nm : ByteArray} {fn fn' va va' : Bool} {pv pv' bv : Value} {ps ps' : List ByteArray} (h : RD W B nm fn pv ps va bv) (hp : W.ownsRow (B + 3) 9 1 pv' ps'.length (strCells ps')) :
    RD (((W.setCell ⟨B + 2, 1, none⟩ (.bool fn')).setCell ⟨B + 2, 2, none⟩ pv').setCell ⟨B + 2, 3, none⟩ (.bool va')) B nm fn' pv' ps' va' bv := by
  refine ⟨?_, ?_, by simp [World.setCell, Array.getElem?_modify, h.b2], ownsRow_setCell_below (ownsRow_setCell_below (ownsRow_setCell_below hp (by simp) _) (by simp) _) (by simp) _⟩
  · rw [Below.heap_setCell _ _ _ _ (by simp), Below.heap_setCell _ _ _ _ (by simp), Below.heap_setCell _ _ _ _ (by simp)]; exact h.b0
  · rw [Below.heap_setCell _ _ _ _ (by simp), Below.heap_setCell _ _ _ _ (by simp), Below.heap_setCell _ _ _ _ (by simp)]; exact h.b1
theorem fill_below {w W : World} {B : Nat} (hw : w.heap.size ≤ B) (h : Below w.heap.size w W) (a b c : Value) :
    Below w.heap.size w (((W.setCell ⟨B + 2, 1, none⟩ a).setCell ⟨B + 2, 2, none⟩ b).setCell ⟨B + 2, 3, none⟩ c) :=
  ((h.setCell (p := ⟨B + 2, 1, none⟩) (by show _ ≤ B + 2; omega) _).setCell (p := ⟨B + 2, 2, none⟩) (by show _ ≤ B + 2; omega) _).setCell (p := ⟨B + 2, 3, none⟩) (by show _ ≤ B + 2; omega) _
theorem bare_take (b : List K) (k : Nat) (t : K) (h : b[k]? = some t) : (Mx.bare b)[k]? = some (if k = 0 then { t with bl := false } else t) := by
  cases b with
  | nil => cases h
  | cons x r => cases k with
    | zero => simp at h; subst h; rfl
    | succ k => simpa [Mx.bare] using h

set_option maxRecDepth 100000 in
set_option maxHeartbeats 4000000 in
theorem rdefine_two (v : Value) (t u : K) (r : List K) (w : World) (hv : Ks w v (t :: u :: r)) (hl : (t :: u :: r).length * 56 ≤ 140737488355328) (hno : Mx.nameOk t = true) :
    Calls Tryd.prog 11 #[v] w (DefPost w (Mx.defi (t :: u :: r))) := by
  obtain ⟨ad, cap, rfl, hc1, hc2, hc3⟩ := id hv
  obtain ⟨res, hres⟩ : ∃ res, res = Mx.defi (t :: u :: r) := ⟨_, rfl⟩
  rw [← hres]
  have hk0 := heap_alloc_new w (.cells #[.string ⟨#[]⟩, .bool false, .slice none 0 0, .bool false, .slice none 0 0] 26)
  replace hk0 := (Below.heap_alloc _ (.cells #[.string ⟨#[]⟩, .bool false, .slice none 0 0, .bool false, .slice none 0 0] 26) _ (lt_of_block hk0)).trans hk0
  have hk1 := heap_alloc_new (w.alloc (.cells #[.string ⟨#[]⟩, .bool false, .slice none 0 0, .bool false, .slice none 0 0] 26)) (.cells #[.string ⟨#[]⟩, .bool false, .slice none 0 0, .bool false, .slice none 0 0] 26)
  simp only [World.size_alloc] at hk1
  have hB2 : Below w.heap.size w ((w.alloc (.cells #[.string ⟨#[]⟩, .bool false, .slice none 0 0, .bool false, .slice none 0 0] 26)).alloc (.cells #[.string ⟨#[]⟩, .bool false, .slice none 0 0, .bool false, .slice none 0 0] 26)) := ((Below.refl _ w).alloc (Nat.le_refl _) _).alloc (by simp) _
  have HK0 := Lib.hid hk0
  have HK1 := Lib.hid hk1
  have HB2 := Lib.hid hB2
  have HRES := Lib.hid hres
  clear hk0 hk1 hB2 hres
  obtain ⟨g, o, rfl, -, -, -, hg, hcs⟩ := hv.cells (by simp)
  have hLf : Lf w w.heap.size (.slice (some ⟨g, o, none⟩) (t :: u :: r).length cap) (t :: u :: r) := ⟨g, o, cap, rfl, hc1, hc2, hg, hcs⟩
  obtain ⟨a0, a1, -, -, -, -⟩ := hcs 0 t rfl
  simp only [Nat.zero_mul, Nat.add_zero] at a0 a1
  simp only [List.length_cons] at hc1 hl
  obtain ⟨n, hn⟩ : ∃ n, n = r.length + 1 := ⟨_, rfl⟩
  rw [show (t :: u :: r).length = n + 1 by rw [hn]; rfl]
  rw [← hn] at hc1 hl
  have HN := Lib.hid hn
  have HL := Lib.hid hl
  have HLF := Lib.hid hLf
  clear hv hc3 hcs hn hLf hl hc2
  have zz : (((n : Int) + 1) == 0) = false := by simp; omega
  have HNO := Lib.hid hno
  obtain ⟨kind, tx, tf, tfr, ten, tbl⟩ := t
  dsimp only at a0 a1
  simp only [Mx.nameOk, Bool.and_eq_true, beq_iff_eq, Bool.not_eq_true', decide_eq_false_iff_not] at hno
  obtain ⟨rfl, hd, hva⟩ := hno
  have t1 : (tx.toList == [100, 101, 102, 105, 110, 101, 100]) = false := lit_no hd
  have t2 : (tx.toList == [95, 95, 86, 65, 95, 65, 82, 71, 83, 95, 95]) = false := lit_no hva
  clear hd hva
  have hk2 := heap_alloc_new ((w.alloc (.cells #[.string ⟨#[]⟩, .bool false, .slice none 0 0, .bool false, .slice none 0 0] 26)).alloc (.cells #[.string ⟨#[]⟩, .bool false, .slice none 0 0, .bool false, .slice none 0 0] 26)) (.cells #[.string tx, .bool false, .slice none 0 0, .bool false, .slice none 0 0] 26)
  simp only [World.size_alloc] at hk2
  have hB3 : Below w.heap.size w (((w.alloc (.cells #[.string ⟨#[]⟩, .bool false, .slice none 0 0, .bool false, .slice none 0 0] 26)).alloc (.cells #[.string ⟨#[]⟩, .bool false, .slice none 0 0, .bool false, .slice none 0 0] 26)).alloc (.cells #[.string tx, .bool false, .slice none 0 0, .bool false, .slice none 0 0] 26)) := HB2.out.alloc (by simp; omega) _
  have hRD : RD (((w.alloc (.cells #[.string ⟨#[]⟩, .bool false, .slice none 0 0, .bool false, .slice none 0 0] 26)).alloc (.cells #[.string ⟨#[]⟩, .bool false, .slice none 0 0, .bool false, .slice none 0 0] 26)).alloc (.cells #[.string tx, .bool false, .slice none 0 0, .bool false, .slice none 0 0] 26)) w.heap.size tx false (.slice none 0 0) [] false (.slice none 0 0) :=
    ⟨(Below.heap_alloc _ _ _ (lt_of_block HK0.out)).trans HK0.out, (Below.heap_alloc _ _ _ (lt_of_block HK1.out)).trans HK1.out, hk2, World.ownsRow_nil _ _ _ _⟩
  clear hk2
  obtain ⟨m, hm⟩ : ∃ m, m = r.length := ⟨_, rfl⟩
  obtain rfl : n = m + 1 := by rw [HN.out, hm]
  obtain ⟨d, rfl⟩ : ∃ d, cap = d + 2 := ⟨cap - 2, by omega⟩
  have HM := Lib.hid hm
  clear hm
  have hlf1 := HLF.out.tl 6 (by omega)
  simp only [show d + 2 - 1 = d + 1 from rfl] at hlf1
  simp only [List.length_cons, ← HM.out] at hlf1
  have hlf3 := hlf1.keep hB3
  go_enter Tryd.func11, Tryd.ntmps11
  go_wp2_with fail
  generalize (((w.alloc (.cells #[.string ⟨#[]⟩, .bool false, .slice none 0 0, .bool false, .slice none 0 0] 26)).alloc (.cells #[.string ⟨#[]⟩, .bool false, .slice none 0 0, .bool false, .slice none 0 0] 26)).alloc (.cells #[.string tx, .bool false, .slice none 0 0, .bool false, .slice none 0 0] 26)) = W3 at hB3 hRD hlf3 ⊢
  refine (rsign_at _ (u :: r) 0 Mx.LP _ hlf3.ks (by omega)).mono ?_
  rintro e W4 ⟨rfl, hW⟩
  subst hW
  rw [show isAt (u :: r) 0 Mx.LP = Mx.isP u Mx.LP from rfl]
  obtain ⟨q, hq⟩ : ∃ q, q = Mx.isP u Mx.LP := ⟨_, rfl⟩
  rw [← hq]
  have HQ := Lib.hid hq
  have HRD := Lib.hid hRD
  have HLF3 := Lib.hid hlf3
  have HB3 := Lib.hid hB3
  obtain ⟨-, -, -, -, -, b5⟩ := (show KAt W4 g (o + 6 + 0 * 6) u by
    obtain ⟨g', o', cap', e, _, _, _, h3⟩ := hlf3
    injection e with e1 e2 e3
    injection e1 with e1
    injection e1 with e1 e4
    subst e1 e4
    exact h3 0 u rfl)
  simp only [Nat.zero_mul, Nat.add_zero] at b5
  obtain ⟨bl, hbl⟩ : ∃ bl, bl = u.bl := ⟨_, rfl⟩
  rw [← hbl] at b5
  have HBL := Lib.hid hbl
  clear hq hRD hlf3 hB3 hlf1 hbl a0 a1
  go_upto_region 7 with (fail)
  go_cut [60] (fun s wx => s = .bool (q && !bl) ∧ wx = W4)
  case first =>
    cases q
    · go_wp2_with fail
      go_meet
      exact ⟨rfl, rfl⟩
    · go_wp2_with fail
      go_meet
      exact ⟨rfl, rfl⟩
  case rest =>
    obtain ⟨rfl, rfl⟩ := hcut
    go_upto_if 60 with (fail)
    go_cut [6] (fun s6 wx => DefRel w tx (u :: r) s6 wx)
    case first =>
      have hRD := HRD.out
      have hr0 := lt_of_block hRD.b0
      have hr1 := lt_of_block hRD.b1
      have hr2 := lt_of_block hRD.b2
      obtain ⟨z0, z1, z2, z3, z4⟩ := zero_cells hRD.b1
      obtain ⟨x0, x1, x2, x3, x4⟩ := zero_cells hRD.b0
      have f0 : ∀ i, wc.frozen? ⟨w.heap.size, i, none⟩ = false := fun i => by simp [World.frozen?, hRD.b0]
      cases bl
      · cases q
        · have HE := Lib.hid (show res = (.zero, 62) by rw [HRES.out, defi_err HNO.out (show Mx.brack (u :: r) = .error 62 by simp [Mx.brack, ← HBL.out, ← HQ.out])])
          clear hRD
          go_wp2_with fail
          have hz := zeros_set wc w.heap.size HRD.out.b0
          have hzB := zeros_below w wc w.heap.size (Nat.le_refl _) HB3.out
          generalize hWf : ((((wc.setCell ⟨w.heap.size, 0, none⟩ (.string ⟨#[]⟩)).setCell ⟨w.heap.size, 1, none⟩ (.bool false)).setCell ⟨w.heap.size, 2, none⟩ (.slice none 0 0)).setCell ⟨w.heap.size, 3, none⟩ (.bool false)).setCell ⟨w.heap.size, 4, none⟩ (.slice none 0 0) = Wf at hz hzB ⊢
          obtain ⟨s0, s1, s2, s3, s4⟩ := zero_cells hz
          refine bodyPost_ret (v := .tuple #[.agg #[.string ⟨#[]⟩, .bool false, .slice none 0 0, .bool false, .slice none 0 0], .int .i64 62]) (by simp [results, Tryd.results11, go_sem, s0, s1, s2, s3, s4]) rfl ?_
          exact def_zero HE.out hzB
        · have hRDb := hRD
          clear hRD
          have HBR := Lib.hid (brack_rpar (r := r) HBL.out.symm HQ.out.symm)
          obtain ⟨rp, hrp⟩ : ∃ rp, rp = Mx.rpar r := ⟨_, rfl⟩
          rw [← hrp] at HBR
          have HRP := Lib.hid hrp
          have HLR := Lib.hid (show r.length * 56 ≤ 140737488355328 by have := HL.out; rw [← HM.out]; omega)
          have HMB := Lib.hid (show m ≤ 2513169434917 by have := HL.out; omega)
          clear hrp hRDb
          rcases Decidable.em (d = 0) with rfl | hd0
          · obtain rfl : m = 0 := by omega
            have hlf4 := HLF3.out.tl 0 (by omega)
            simp only [Nat.add_zero, Nat.sub_self] at hlf4
            go_wp2_with fail
            refine (rparams_any _ r _ ?hks HLR.out).mono ?_
            case hks => exact Lf.ks hlf4
            rw [← HRP.out]
            rintro e W5 ⟨pv, rfl, hrow, hB5⟩
            obtain ⟨pa, pn, pc, rfl⟩ := row_slice hrow
            have hRD5 := HRD.out.keep hB5
            have hB6 := Below.then HB3.out hB5
            have hr0 := lt_of_block hRD5.b0
            have hr1 := lt_of_block hRD5.b1
            have hr2 := lt_of_block hRD5.b2
            obtain ⟨z0, z1, z2, z3, z4⟩ := zero_cells hRD5.b1
            obtain ⟨x0, x1, x2, x3, x4⟩ := zero_cells hRD5.b0
            have f0 : ∀ i, W5.frozen? ⟨w.heap.size, i, none⟩ = false := fun i => by simp [World.frozen?, hRD5.b0]
            rcases HBR.out with ⟨hneg, hb⟩ | ⟨k, hk, hkr, hb⟩
            · have HE := Lib.hid (show res = (.zero, 61) by rw [HRES.out, defi_err HNO.out hb])
              have H5 := Lib.hid hRD5
              clear hRD5 hb
              go_wp2_with fail
              have hz := zeros_set W5 w.heap.size H5.out.b0
              have hzB := zeros_below w W5 w.heap.size (Nat.le_refl _) hB6
              generalize hWf : ((((W5.setCell ⟨w.heap.size, 0, none⟩ (.string ⟨#[]⟩)).setCell ⟨w.heap.size, 1, none⟩ (.bool false)).setCell ⟨w.heap.size, 2, none⟩ (.slice none 0 0)).setCell ⟨w.heap.size, 3, none⟩ (.bool false)).setCell ⟨w.heap.size, 4, none⟩ (.slice none 0 0) = Wf at hz hzB ⊢
              obtain ⟨s0, s1, s2, s3, s4⟩ := zero_cells hz
              refine bodyPost_ret (v := .tuple #[.agg #[.string ⟨#[]⟩, .bool false, .slice none 0 0, .bool false, .slice none 0 0], .int .i64 61]) (by simp [results, Tryd.results11, go_sem, s0, s1, s2, s3, s4]) rfl ?_
              exact def_zero HE.out hzB
            · exfalso
              rw [HRP.out, List.length_eq_zero_iff.1 HM.out.symm] at hk
              simp [Mx.rpar, isAt, Mx.plist] at hk
          · obtain ⟨d, rfl⟩ : ∃ d', d = d' + 1 := ⟨d - 1, by omega⟩
            have hlf4 := HLF3.out.tl 6 (by omega)
            simp only [Nat.add_sub_cancel] at hlf4
            go_wp2_with fail
            refine (rparams_any _ r _ ?hks HLR.out).mono ?_
            case hks => exact Lf.ks hlf4
            rw [← HRP.out]
            rintro e W5 ⟨pv, rfl, hrow, hB5⟩
            obtain ⟨pa, pn, pc, rfl⟩ := row_slice hrow
            have hRD5 := HRD.out.keep hB5
            have hB6 := Below.then HB3.out hB5
            have hr0 := lt_of_block hRD5.b0
            have hr1 := lt_of_block hRD5.b1
            have hr2 := lt_of_block hRD5.b2
            obtain ⟨z0, z1, z2, z3, z4⟩ := zero_cells hRD5.b1
            obtain ⟨x0, x1, x2, x3, x4⟩ := zero_cells hRD5.b0
            have f0 : ∀ i, W5.frozen? ⟨w.heap.size, i, none⟩ = false := fun i => by simp [World.frozen?, hRD5.b0]
            rcases HBR.out with ⟨hneg, hb⟩ | ⟨k, hk, hkr, hb⟩
            · have HE := Lib.hid (show res = (.zero, 61) by rw [HRES.out, defi_err HNO.out hb])
              have H5 := Lib.hid hRD5
              clear hRD5 hb
              go_wp2_with fail
              have hz := zeros_set W5 w.heap.size H5.out.b0
              have hzB := zeros_below w W5 w.heap.size (Nat.le_refl _) hB6
              generalize hWf : ((((W5.setCell ⟨w.heap.size, 0, none⟩ (.string ⟨#[]⟩)).setCell ⟨w.heap.size, 1, none⟩ (.bool false)).setCell ⟨w.heap.size, 2, none⟩ (.slice none 0 0)).setCell ⟨w.heap.size, 3, none⟩ (.bool false)).setCell ⟨w.heap.size, 4, none⟩ (.slice none 0 0) = Wf at hz hzB ⊢
              obtain ⟨s0, s1, s2, s3, s4⟩ := zero_cells hz
              refine bodyPost_ret (v := .tuple #[.agg #[.string ⟨#[]⟩, .bool false, .slice none 0 0, .bool false, .slice none 0 0], .int .i64 61]) (by simp [results, Tryd.results11, go_sem, s0, s1, s2, s3, s4]) rfl ?_
              exact def_zero HE.out hzB
            · have g1 : W5.cell? ⟨w.heap.size + 1 + 1, 1, none⟩ = some (.bool false) := (Lib.cell_of_heap hRD5.b2 1).trans rfl
              have g2 : W5.cell? ⟨w.heap.size + 1 + 1, 2, none⟩ = some (.slice none 0 0) := (Lib.cell_of_heap hRD5.b2 2).trans rfl
              have g3 : W5.cell? ⟨w.heap.size + 1 + 1, 3, none⟩ = some (.bool false) := (Lib.cell_of_heap hRD5.b2 3).trans rfl
              have f2 : ∀ i, W5.frozen? ⟨w.heap.size + 1 + 1, i, none⟩ = false := fun i => by
                have := hRD5.b2
                simp only [show w.heap.size + 2 = w.heap.size + 1 + 1 from rfl] at this
                simp [World.frozen?, this]
              have hr3 : w.heap.size + 1 + 1 < W5.heap.size := hr2
              have hkm : k ≤ m := by rw [HM.out]; exact hkr
              obtain ⟨j, hj⟩ : ∃ j, j = 1 + k := ⟨_, rfl⟩
              have y1 : IntKind.i64.wrap (1 + (k : Int)) = (j : Int) := by rw [IntWalk.i64_in _ (by have := HMB.out; omega)]; omega
              have y2 : (0 : Int) ≤ j := by omega
              have y3 : (j : Int) ≤ m + 1 := by omega
              have y4 : ¬ (k : Int) < 0 := by omega
              have H5 := Lib.hid hRD5
              have HBK := Lib.hid hb
              have HROW := Lib.hid hrow
              clear hRD5 hb hkr hrow
              rw [hk]
              have HJ := Lib.hid hj
              have HSZ := Lib.hid (show w.heap.size + 3 ≤ wc.heap.size by have := lt_of_block HRD.out.b2; omega)
              have HKB := Lib.hid (show ∀ a b c : Value, Below w.heap.size wc (((W5.setCell ⟨w.heap.size + 2, 1, none⟩ a).setCell ⟨w.heap.size + 2, 2, none⟩ b).setCell ⟨w.heap.size + 2, 3, none⟩ c) from fun a b c =>
                (((hB5.mono HB3.out.size).setCell (p := ⟨w.heap.size + 2, 1, none⟩) (by show _ ≤ w.heap.size + 2; omega) a).setCell (p := ⟨w.heap.size + 2, 2, none⟩) (by show _ ≤ w.heap.size + 2; omega) b).setCell (p := ⟨w.heap.size + 2, 3, none⟩) (by show _ ≤ w.heap.size + 2; omega) c)
              clear hk hj
              rcases Decidable.em (j = d + 2) with rfl | hjd
              · obtain rfl : m = d + 1 := by omega
                go_wp2_with fail
                go_meet
                exact ⟨true, rp.1, rp.2.1, r.drop k, .slice pa pn pc, HBK.out, by
                  have h := (HLF3.out.part (d + 2) (by simp only [List.length_cons, ← HM.out]; omega) 0 (by omega)).keep (W' := (((W5.setCell ⟨w.heap.size + 2, 1, none⟩ (.bool true)).setCell ⟨w.heap.size + 2, 2, none⟩ (.slice pa pn pc)).setCell ⟨w.heap.size + 2, 3, none⟩ (.bool rp.2.1))) (HKB.out _ _ _)
                  rw [show (u :: r).drop (d + 2) = r.drop k by rw [HJ.out, Nat.add_comm]; rfl] at h
                  exact h, H5.out.fill (HROW.out.mono HSZ.out), fill_below (Nat.le_refl _) hB6 _ _ _⟩
              · go_wp2_with fail
                go_meet
                exact ⟨true, rp.1, rp.2.1, r.drop k, .slice pa pn pc, HBK.out, by
                  have h := (HLF3.out.part j (by simp only [List.length_cons, ← HM.out]; omega) (j * 6) (fun _ => rfl)).keep (W' := (((W5.setCell ⟨w.heap.size + 2, 1, none⟩ (.bool true)).setCell ⟨w.heap.size + 2, 2, none⟩ (.slice pa pn pc)).setCell ⟨w.heap.size + 2, 3, none⟩ (.bool rp.2.1))) (HKB.out _ _ _)
                  rw [show (u :: r).drop j = r.drop k by rw [HJ.out, Nat.add_comm]; rfl] at h
                  exact h, H5.out.fill (HROW.out.mono HSZ.out), fill_below (Nat.le_refl _) hB6 _ _ _⟩
      · cases q
        · clear hRD
          go_wp2_with fail
          go_meet
          case rel => exact ⟨false, [], false, u :: r, .slice none 0 0, by simp [Mx.brack, ← HBL.out], HLF3.out, HRD.out, HB3.out⟩
        · clear hRD
          go_wp2_with fail
          go_meet
          case rel => exact ⟨false, [], false, u :: r, .slice none 0 0, by simp [Mx.brack, ← HBL.out], HLF3.out, HRD.out, HB3.out⟩
    case rest =>
      obtain ⟨fn, ps, va, b, pv, hbr, hlf, hRD, hB⟩ := hcut
      have HE := Lib.hid (show res = Mx.bodyOf tx fn ps va b by rw [HRES.out, defi_ok HNO.out hbr])
      have hbl := (brack_suffix hbr).length_le
      simp only [List.length_cons, ← HM.out] at hbl
      obtain ⟨gb, ob, cb, rfl, hb1, hb2, hgb, hbc⟩ := id hlf
      obtain ⟨nb, hnb⟩ : ∃ nb, nb = b.length := ⟨_, rfl⟩
      rw [← hnb] at hbl hb1 ⊢
      have hnb5 : nb ≤ 2513169434915 := by have := HL.out; omega
      have HKA := Lib.hid (show ∀ (W : World), Below w.heap.size w W → ∀ i x, b[i]? = some x → KAt W gb (ob + i * 6) x from fun W hW i x hx => (hbc i x hx).kept ((hW.block gb hgb).trans (hB.block gb hgb).symm))
      have Hnb := Lib.hid hnb
      have HRDb := Lib.hid hRD
      have HBb := Lib.hid hB
      have HB2b := Lib.hid hb2
      obtain ⟨i0, hi, hz0, hz1, hz2⟩ := info_parts infoTok
      clear hbr hlf hb2 hbc hnb hRD hB
      go_wp2_with fail
      go_loopw [11] (fun i wr => ∃ (k : Nat) (bv : Value), i = .int .i64 k ∧ k ≤ nb ∧ RD wr w.heap.size tx fn pv ps va bv ∧ wr.ownsRow (w.heap.size + 3) 39 6 bv k (ksCells ((Mx.bare b).take k)) ∧ Below w.heap.size w wr) (fun i _ => nb - (intOf i).toNat)
      case atStart => exact ⟨0, _, rfl, Nat.zero_le _, HRDb.out, World.ownsRow_nil _ _ _ _, HBb.out⟩
      case round =>
        obtain ⟨k, bv, rfl, hk, hRk, hrow, hBk⟩ := hrel
        by_cases hlt : k < nb
        · obtain ⟨x, hx⟩ : ∃ x, b[k]? = some x := ⟨_, List.getElem?_eq_getElem (by rw [← Hnb.out]; exact hlt)⟩
          obtain ⟨a0, a1, a2, a3, a4, a5⟩ := HKA.out wr hBk k x hx
          have htk := bare_take b k x hx
          have hgl := lt_of_cell a0
          obtain ⟨ba, bm, bc, rfl⟩ := row_slice hrow
          obtain rfl := row_len hrow
          have g4 : wr.cell? ⟨w.heap.size + 1 + 1, 4, none⟩ = some (.slice ba bm bc) := (Lib.cell_of_heap hRk.b2 4).trans rfl
          have hr3 : w.heap.size + 1 + 1 < wr.heap.size := lt_of_block hRk.b2
          have y1 : (0 : Int) ≤ bm := by omega
          have y2 : (bm : Int) < nb := by omega
          have HRk := Lib.hid hRk
          have HROW := Lib.hid hrow
          have HTK := Lib.hid htk
          clear hRk hrow htk hx
          rcases Nat.eq_zero_or_pos bm with h0 | h0
          · subst h0
            simp only [Nat.zero_mul, Nat.add_zero] at a0 a1 a2 a3 a4 a5
            go_wp2_with (at_builtin; refine wpList_append_own _ rfl _ _ 24 rfl (w.heap.size + 3) 39 i0 _ 6 56 Tryd.underlying24 hi hz0 hz1 hz2 rfl (by decide) _ _ _ rfl ((HROW.out.alloc _).alloc _) ⟨wr.heap.size + 1, 0, none⟩ 1 1 [.int .i64 x.kind, .string x.text, .int .i64 x.file, .int .i64 x.fr, .int .i64 x.en, .bool false] rfl rfl (news6' _ _ _ _ _ _ _ _ _) (by simp [Value.oneCell']) (by unfold maxLen; omega) (by omega) (by simp; omega) ?_; intro v' w1 hown hgrow hnil; obtain ⟨ga, gm, gc, rfl⟩ := row_slice hown; have hR1 := HRk.out.grow HROW.out hgrow; have g41 : w1.cell? ⟨w.heap.size + 1 + 1, 4, none⟩ = some (.slice ba 0 bc) := (Lib.cell_of_heap hR1.b2 4).trans rfl; have f41 : w1.frozen? ⟨w.heap.size + 1 + 1, 4, none⟩ = false := frozen_b2 hR1 4; have hr31 : w.heap.size + 1 + 1 < w1.heap.size := lt_of_block hR1.b2)
            go_roundw
            case rel => exact ⟨0 + 1, _, by go_num, by omega, hR1.setBv _, by
              rw [ks_take HTK.out]
              exact ownsRow_setCell_below hown (by simp) _, (((hBk.alloc hBk.size _).alloc (by simp; have := hBk.size; omega) _).grown hgrow (by simp; have := hBk.size; omega) (fun q hq => by have := (HROW.out.lt q hq).1; omega)).setCell (p := ⟨w.heap.size + 2, 4, none⟩) (by show _ ≤ w.heap.size + 2; omega) _⟩
            case measure => simp [intOf]; omega
          · have HTK2 := HTK.out
            rw [if_neg (by omega)] at HTK2
            have HTK := Lib.hid HTK2
            clear HTK2
            go_wp2_with (at_builtin; refine wpList_append_own _ rfl _ _ 24 rfl (w.heap.size + 3) 39 i0 _ 6 56 Tryd.underlying24 hi hz0 hz1 hz2 rfl (by decide) _ _ _ rfl ((HROW.out.alloc _).alloc _) ⟨wr.heap.size + 1, 0, none⟩ 1 1 [.int .i64 x.kind, .string x.text, .int .i64 x.file, .int .i64 x.fr, .int .i64 x.en, .bool x.bl] rfl rfl (news6' _ _ _ _ _ _ _ _ _) (by simp [Value.oneCell']) (by unfold maxLen; omega) (by omega) (by simp; omega) ?_; intro v' w1 hown hgrow hnil; obtain ⟨ga, gm, gc, rfl⟩ := row_slice hown; have hR1 := HRk.out.grow HROW.out hgrow; have g41 : w1.cell? ⟨w.heap.size + 1 + 1, 4, none⟩ = some (.slice ba bm bc) := (Lib.cell_of_heap hR1.b2 4).trans rfl; have f41 : w1.frozen? ⟨w.heap.size + 1 + 1, 4, none⟩ = false := frozen_b2 hR1 4; have hr31 : w.heap.size + 1 + 1 < w1.heap.size := lt_of_block hR1.b2)
            go_roundw
            case rel => exact ⟨bm + 1, _, by go_num, by omega, hR1.setBv _, by
              rw [ks_take HTK.out]
              exact ownsRow_setCell_below hown (by simp) _, (((hBk.alloc hBk.size _).alloc (by simp; have := hBk.size; omega) _).grown hgrow (by simp; have := hBk.size; omega) (fun q hq => by have := (HROW.out.lt q hq).1; omega)).setCell (p := ⟨w.heap.size + 2, 4, none⟩) (by show _ ≤ w.heap.size + 2; omega) _⟩
            case measure => simp [intOf]; omega
        · have hkn : k = nb := by omega
          subst hkn
          have hrow2 := hrow
          rw [List.take_of_length_le (by rw [bare_len, ← Hnb.out]; exact Nat.le_refl _)] at hrow2
          have H1 := Lib.hid hRk
          have H2 := Lib.hid hrow2
          have H3 := Lib.hid hBk
          have H4 := Lib.hid (show ∀ i x, b[i]? = some x → KAt wr gb (ob + i * 6) x from fun i x hx => HKA.out wr hBk i x hx)
          clear hRk hrow hrow2 hBk
          have y2 : ¬ (k : Int) < k := by omega
          go_upto_if 94 with (fail)
          refine wp_cond_false (by rfl) (wp_exit ?_)
          repeat (first
            | exact rdef_paste w wr tx fn va ps pv bv _ b res k cb gb ob rfl Hnb.out hnb5 hb1 HB2b.out H4.out H1.out H2.out H3.out HE.out _ _ _ _ _ _ _ _ _ _ _ _ _ _ _ _ _ _ _ _ _ _ _ _ _ _ _ _ _ _ _ _ _ _ _ _ _ _ _ _ _ _ _ _ _ _ _ _ _ _ _ _ _ _ _ _ _ _ _ _ _ _ _ _ _ _ _ _ _ _ _ _ _ _ _ _ _ _ _ _ _ _ _ _ _ _ _ _ _ _ _ _ _ _ _ _ _ _ _ _ _ _ _ _ _ _ _ _ _ _ _ _ _ _ _ _ _ _ _ _ _ _ _ _ _ _ _ _ _ _ _ _ _ _ _ _ _ _ _ _ _ _ _ _ _ _ _ _ _ _ _ _ _ _ _ _ _ _ _ _ _ _ _ _ _ _ _ _ _ _ _ _ _ _ _ _ _ _ _ _ _ _ _ _ _ _ _ _ _ _
            | go_step)

end Go.Proofs.YtfjbmenakcnadaaDoor
