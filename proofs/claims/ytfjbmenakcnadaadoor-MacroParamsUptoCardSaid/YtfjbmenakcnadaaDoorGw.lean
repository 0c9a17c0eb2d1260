/- What is proved: what Print tells. (and what stands with it) -/
import Derived.Test.YtfjbmenakcnadaaDoorGv
import Derived.Test.YtfjbmenakcnadaaDoorGh
import Derived.Test.YtfjbmenakcnadaaDoorGu

/- What is proved: what Print tells. -/
namespace Go.Proofs.YtfjbmenakcnadaaDoor
open Go.RowKit Go.Shelf Go.WideMaps

namespace Mx
theorem joinB_join (sep : List UInt8) : ∀ ws : List (List UInt8), Lx.joinB sep ws = Go.Lib.join ws sep ++ [41]
  | [] => rfl
  | [w] => by rw [Go.Lib.join_one]; rfl
  | w :: w' :: r => by
    have ih := joinB_join sep (w' :: r)
    rw [Lx.joinB, ih, Go.Lib.join_cons, Go.Lib.join_cons]
    simp [Go.Lib.joinTail, List.append_assoc]
theorem itemsDots (ps : List ByteArray) (va : Bool) : itemsT ps va = (withDots ps va).map (·.data.toList) := by
  cases va <;> simp [itemsT, withDots, EL]
/-- What is printed of a name and its brackets. -/
def hdL (m : M) : List UInt8 := m.name.data.toList ++ if m.fn then 40 :: (Go.Lib.join ((withDots m.ps m.va).map (·.data.toList)) [44, 32] ++ [41]) else []
theorem prtL_hd (m : M) : prtL m = hdL m ++ bdL m.body := by
  unfold prtL hdL bdL
  rw [List.append_assoc, itemsDots, joinB_join]
end Mx

set_option maxRecDepth 100000 in
set_option maxHeartbeats 2000000 in
theorem mprint_any (v : Value) (m : Mx.M) (ts : List Lx.T) (w : World) (hv : MA w v m) (hts : m.body = ts.map (ofT 0)) (hl : (Mx.prtL m).length ≤ 1000000000) (htl : ts.length ≤ 1000000000) (hpl : m.ps.length ≤ 900000000) :
    Calls Tryd.prog 16 #[v] w fun e w' => e = .returned (.string ⟨(Mx.prtL m).toArray⟩) ∧ Below w.heap.size w w' := by
  obtain ⟨pv, bv, rfl, hp, hb⟩ := hv
  rw [hts] at hb
  obtain ⟨nm, fn, ps, va, body⟩ := m
  dsimp only at hp hb hts hl hpl ⊢
  have hhd := Mx.prtL_hd ⟨nm, fn, ps, va, body⟩
  dsimp only at hhd
  obtain ⟨res, hres⟩ : ∃ res : ByteArray, res = ⟨(Mx.prtL ⟨nm, fn, ps, va, body⟩).toArray⟩ := ⟨_, rfl⟩
  rw [← hres]
  have hrl : res.size ≤ 1000000000 := by rw [hres]; show (Mx.prtL _).toArray.size ≤ _; simpa using hl
  have hrd : res.data.toList = Mx.hdL ⟨nm, fn, ps, va, body⟩ ++ Mx.bdL (ts.map (ofT 0)) := by rw [hres, ← hts, ← hhd]
  obtain ⟨pa, pn, pc, rfl⟩ : ∃ a n c, pv = .slice a n c := by obtain ⟨a, c, e, -⟩ := hp.1; exact ⟨a, _, c, e⟩
  obtain ⟨ba, bn, bc, rfl⟩ : ∃ a n c, bv = .slice a n c := by obtain ⟨a, c, e, -⟩ := hb; exact ⟨a, _, c, e⟩
  have hB0 : Below w.heap.size w (w.alloc (.cells #[.string nm, .bool fn, .slice pa pn pc, .bool va, .slice ba bn bc] 26)) := (Below.refl _ w).alloc (Nat.le_refl _) _
  have hbox := heap_alloc_new w (.cells #[.string nm, .bool fn, .slice pa pn pc, .bool va, .slice ba bn bc] 26)
  have HP := Lib.hid (hp.below hB0)
  have HKS := Lib.hid (hb.below hB0)
  have HB0 := Lib.hid hB0
  have HBOX := Lib.hid hbox
  have HRD := Lib.hid hrd
  have HRL := Lib.hid hrl
  have HPL := Lib.hid hpl
  clear hp hb hts hl hhd hres hrl hrd hB0 hpl hbox
  cases fn
  · go_enter Tryd.func16, Tryd.ntmps16
    show Code.wp Tryd.prog (secs 0 printBody) _ _ _
    refine wp_sec 0 printBody rfl ?_
    conv => arg 2; whnf
    go_wp2_with fail
    refine wp_sec 1 printBody rfl ?_
    conv => arg 2; whnf
    go_wp2_with fail
    refine wp_sec 2 printBody rfl ?_
    conv => arg 2; whnf
    go_wp2_with fail
    refine print_tail w _ w.heap.size nm nm false va _ _ ts res HBOX.out HKS.out HB0.out ?_ HRL.out htl _ _ _ _ _ _ _ _ _ _ _ _ _ _ _ _ _ _ _ _ _ _ _ _ _
    rw [HRD.out]
    simp [Mx.hdL]
  · obtain ⟨J, hJ⟩ : ∃ J, J = Go.Lib.join ((withDots ps va).map (·.data.toList)) [44, 32] := ⟨_, rfl⟩
    have hrd2 : res.data.toList = (nm.data.toList ++ 40 :: (J ++ [41])) ++ Mx.bdL (ts.map (ofT 0)) := by rw [HRD.out, hJ]; rfl
    have hsz : nm.size + J.length + 2 ≤ 1000000000 := by
      have h1 := congrArg List.length hrd2
      have h2 := HRL.out
      simp only [List.length_append, List.length_cons, List.length_nil, size_list] at h1
      omega
    have HJL := Lib.hid (show J.length ≤ 1000000000 by omega)
    have had1 : ∀ W, (Op.stringOp .add ⟨#[40]⟩ ⟨J.toArray⟩).run Tryd.prog W = .ok (.string ⟨(40 :: J).toArray⟩) W := fun W => add_ba _ _ _ (by show 1 + J.toArray.size ≤ _; simp; omega) (by simp) W
    have had2 : ∀ W, (Op.stringOp .add ⟨(40 :: J).toArray⟩ ⟨#[41]⟩).run Tryd.prog W = .ok (.string ⟨(40 :: (J ++ [41])).toArray⟩) W := fun W => add_ba _ _ _ (by show (40 :: J).toArray.size + 1 ≤ _; simp; omega) (by simp) W
    obtain ⟨out, hout⟩ : ∃ out : ByteArray, out = ⟨(nm.data.toList ++ 40 :: (J ++ [41])).toArray⟩ := ⟨_, rfl⟩
    have had3 : ∀ W, (Op.stringOp .add nm ⟨(40 :: (J ++ [41])).toArray⟩).run Tryd.prog W = .ok (.string out) W := fun W => add_ba _ _ _ (by show nm.size + (40 :: (J ++ [41])).toArray.size ≤ _; simp; omega) (by rw [hout]) W
    have HO := Lib.hid (show res.data.toList = out.data.toList ++ Mx.bdL (ts.map (ofT 0)) by rw [hrd2, hout])
    have HJ := Lib.hid hJ
    clear hrd2 hsz hout hJ
    go_enter Tryd.func16, Tryd.ntmps16
    show Code.wp Tryd.prog (secs 0 printBody) _ _ _
    refine wp_sec 0 printBody rfl ?_
    conv => arg 2; whnf
    go_wp2_with fail
    refine wp_sec 1 printBody rfl ?_
    conv => arg 2; whnf
    go_wp2_with fail
    refine wp_sec 2 printBody rfl ?_
    conv => arg 2; whnf
    go_wp2_with fail
    refine (listed_any nm true va _ _ ps _ HP.out HPL.out ⟨_, _, _, rfl⟩).mono ?_
    rintro e W1 ⟨r, rfl, hr, hB1⟩
    have hbox1 := (hB1.block _ (lt_of_block HBOX.out)).trans HBOX.out
    have hks1 := HKS.out.below hB1
    have hB1' := Below.then HB0.out hB1
    go_wp2_with fail
    refine (joinS_any r (withDots ps va) _ hr (by have := HPL.out; cases va <;> simp [withDots] <;> omega) (by rw [← HJ.out]; exact HJL.out)).mono ?_
    rw [← HJ.out]
    rintro e W2 ⟨rfl, hB2⟩
    have hbox2 := Lib.hid ((hB2.block _ (lt_of_block hbox1)).trans hbox1)
    have hks2 := Lib.hid (hks1.below hB2)
    have hB2' := Lib.hid (Below.then hB1' hB2)
    clear hbox1 hks1 hB1' hB1 hB2 hr
    go_wp2_with fail
    exact print_tail w _ w.heap.size out nm true va _ _ ts res hbox2.out hks2.out hB2'.out HO.out HRL.out htl _ _ _ _ _ _ _ _ _ _ _ _ _ _ _ _ _ _ _ _ _ _ _ _ _
end Go.Proofs.YtfjbmenakcnadaaDoor

/- What is proved: what the document's own Print of macros tells. -/
namespace Go.Proofs.YtfjbmenakcnadaaDoor
open Go.RowKit Go.Shelf Go.WideMaps

noncomputable def rprintBody : Code := Tryd.f19.body.getD .skip
set_option maxRecDepth 100000 in
set_option maxHeartbeats 2000000 in
theorem rprint_tail (w W : World) (B : Nat) (out nm : ByteArray) (fn va : Bool) (pv bv : Value) (ts : List Lx.T) (res : ByteArray) (hbox : W.heap[B]? = some (.cells #[.string nm, .bool fn, pv, .bool va, bv] 26 (0, 0)))
    (hks : Ks W bv (ts.map (ofT 0))) (hB : Below w.heap.size w W) (hres : res.data.toList = out.data.toList ++ Mx.bdL (ts.map (ofT 0))) (hl : res.size ≤ 1000000000) (htl : ts.length ≤ 1000000000)
    (c0 c2 c4 c5 c6 c7 c8 c9 c10 c11 c12 c13 c14 c15 c16 c17 c18 c19 c20 c21 c22 c23 c24 c25 c26 c27 c28 c29 c30 c31 c32 c33 c34 c35 c36 c37 c38 c39 c40 c41 c42 c43 c44 c45 c46 c47 c48 c49 c50 c51 c52 c53 c54 c55 c56 : Value) :
    Code.wp Tryd.prog (secs 3 rprintBody) (bodyPost Tryd.prog Tryd.f19 (fun e w' => e = .returned (.string res) ∧ Below w.heap.size w w')) ⟨#[c0, .pointer (some ⟨B, 0, none⟩), c2, .string out, c4, c5, c6, c7, c8, c9, c10, c11, c12, c13, c14, c15, c16, c17, c18, c19, c20, c21, c22, c23, c24, c25, c26, c27, c28, c29, c30, c31, c32, c33, c34, c35, c36, c37, c38, c39, c40, c41, c42, c43, c44, c45, c46, c47, c48, c49, c50, c51, c52, c53, c54, c55, c56], []⟩ W := by
  have HBOX := Lib.hid hbox
  have HKS := Lib.hid hks
  have HRES := Lib.hid hres
  have HB := Lib.hid hB
  obtain ⟨ad, cap, rfl, h1, h2, -⟩ := id hks
  rw [List.length_map] at h1
  obtain ⟨n, hn⟩ : ∃ n, n = ts.length := ⟨_, rfl⟩
  have e4 : W.cell? ⟨B, 4, none⟩ = some (.slice ad n cap) := by rw [hn]; exact ((Lib.cell_of_heap hbox 4).trans (by rw [List.length_map]; rfl))
  have HN := Lib.hid hn
  have HL := Lib.hid hl
  clear hbox hks hres hB hn hl
  by_cases h0 : n = 0
  · obtain rfl : ts = [] := List.length_eq_zero_iff.1 (by rw [← HN.out, h0])
    have he := Lib.hid (show res = out by
      have := HRES.out
      simp only [List.map_nil, Mx.bdL, if_true, List.append_nil] at this
      rw [← Go.Lib.mk_data res, this, Go.Lib.mk_data])
    have t1 : ((n : Int) == 0) = true := by simp [h0]
    clear h0
    conv => arg 2; whnf
    go_wp2_with fail
    go_ret
    exact ⟨by rw [he.out]; rfl, HB.out⟩
  · have t1 : ((n : Int) == 0) = false := by simp [h0]
    have HNE := Lib.hid (show ts ≠ [] from fun e => h0 (by rw [HN.out, e]; rfl))
    obtain ⟨P, hP⟩ : ∃ P, P = Lx.pr (Mx.bareT ts) := ⟨_, rfl⟩
    have hres2 : res.data.toList = out.data.toList ++ 32 :: P := by rw [HRES.out, Mx.bdL_ofT 0 ts HNE.out, hP]
    have hsz : res.size = out.size + 1 + P.length := by
      have := congrArg List.length hres2
      simp only [List.length_append, List.length_cons, size_list] at this
      omega
    have hPl := Lib.hid (show P.length ≤ 1000000000 by have := HL.out; omega)
    obtain ⟨o2, ho2⟩ : ∃ o2 : ByteArray, o2 = ⟨(out.data.toList ++ [32]).toArray⟩ := ⟨_, rfl⟩
    have hos : o2.size = out.size + 1 := by rw [ho2]; show (out.data.toList ++ [32]).toArray.size = _; simp
    have had1 : ∀ W, (Op.stringOp .add out ⟨#[32]⟩).run Tryd.prog W = .ok (.string o2) W := fun W => add_ba _ _ _ (by have := HL.out; show out.size + 1 ≤ _; omega) (by rw [ho2]) W
    have had2 : ∀ W, (Op.stringOp .add o2 ⟨P.toArray⟩).run Tryd.prog W = .ok (.string res) W := fun W => add_ba _ _ _ (by have := HL.out; show o2.size + P.toArray.size ≤ _; simp; omega) (by rw [hres2, ho2]; simp) W
    have HP := Lib.hid hP
    clear hP hres2 hsz h0 ho2 hos
    conv => arg 2; whnf
    go_wp2_with fail
    refine (rbare_any _ (ts.map (ofT 0)) _ (by have := HKS.out; rwa [List.length_map, ← HN.out] at this) (by rw [List.length_map]; omega)).mono ?_
    rintro e W1 ⟨u, rfl, hown, hB1⟩
    have hk1 : Ks W1 u (Mx.bare (ts.map (ofT 0))) := Ks.of_row (by rw [bare_len]; exact hown)
    rw [Mx.bare_ofT] at hk1
    have htk := hk1.toks
    have hB2 := Below.then HB.out hB1
    clear hown hk1 hB1
    go_wp2_with fail
    refine (rprint_any _ 0 (Mx.bareT ts) _ htk (by have : (Mx.bareT ts).length = ts.length := by cases ts <;> rfl
                                                   omega) (by rw [← HP.out]; exact hPl.out)).mono ?_
    rw [← HP.out]
    rintro e W2 ⟨rfl, hW⟩
    subst hW
    go_wp2_with fail
    go_ret
    exact ⟨rfl, hB2⟩
end Go.Proofs.YtfjbmenakcnadaaDoor

/- What is proved: what the document's own Print of macros tells, its brackets. -/
namespace Go.Proofs.YtfjbmenakcnadaaDoor
open Go.RowKit Go.Shelf Go.WideMaps

namespace Mx
def SEP : List UInt8 := [44, 32]
def jn (ps : List ByteArray) : List UInt8 := Go.Lib.join (ps.map (·.data.toList)) SEP
theorem jn_nil : jn [] = [] := rfl
theorem jn_snoc (ps : List ByteArray) (p : ByteArray) : jn (ps ++ [p]) = (if ps = [] then [] else jn ps ++ SEP) ++ p.data.toList := by
  cases ps with
  | nil => show Go.Lib.join [p.data.toList] SEP = _; rw [Go.Lib.join_one]; rfl
  | cons x r =>
    rw [if_neg (by simp)]
    unfold jn
    rw [List.cons_append, List.map_cons, List.map_cons, List.map_append, Go.Lib.join_cons, Go.Lib.join_cons]
    simp [Go.Lib.joinTail, List.append_assoc]
theorem jn_take (ps : List ByteArray) (k : Nat) (p : ByteArray) (h : ps[k]? = some p) : jn (ps.take (k + 1)) = (if k = 0 then [] else jn (ps.take k) ++ SEP) ++ p.data.toList := by
  have hk := (List.getElem?_eq_some_iff.1 h).1
  rw [List.take_add_one, h]
  show jn (ps.take k ++ [p]) = _
  rw [jn_snoc]
  by_cases h0 : k = 0
  · subst h0; simp
  · rw [if_neg (by simp; refine ⟨h0, fun e => ?_⟩; rw [e] at hk; simp at hk), if_neg h0]
theorem jn_le (ps : List ByteArray) : ∀ n k, k + n = ps.length → (jn (ps.take k)).length ≤ (jn ps).length := by
  intro n
  induction n with
  | zero => intro k hk; rw [List.take_of_length_le (by omega)]; first | done | exact Nat.le_refl _
  | succ n ih =>
    intro k hk
    refine Nat.le_trans ?_ (ih (k + 1) (by omega))
    rw [jn_take ps k _ (List.getElem?_eq_getElem (by omega))]
    by_cases h0 : k = 0
    · subst h0; simp [jn_nil]
    · rw [if_neg h0]; simp
theorem jn_take_le (ps : List ByteArray) (k : Nat) (h : k ≤ ps.length) : (jn (ps.take k)).length ≤ (jn ps).length := jn_le ps (ps.length - k) k (by omega)
end Mx

set_option maxRecDepth 100000 in
set_option maxHeartbeats 4000000 in
theorem rmprint_any (v : Value) (m : Mx.M) (ts : List Lx.T) (w : World) (hv : MA w v m) (hts : m.body = ts.map (ofT 0)) (hl : (Mx.prtL m).length ≤ 1000000000) (htl : ts.length ≤ 1000000000) (hpl : m.ps.length ≤ 900000000) :
    Calls Tryd.prog 19 #[v] w fun e w' => e = .returned (.string ⟨(Mx.prtL m).toArray⟩) ∧ Below w.heap.size w w' := by
  obtain ⟨pv, bv, rfl, hp, hb⟩ := hv
  rw [hts] at hb
  obtain ⟨nm, fn, ps, va, body⟩ := m
  dsimp only at hp hb hts hl hpl ⊢
  have hhd := Mx.prtL_hd ⟨nm, fn, ps, va, body⟩
  dsimp only at hhd
  obtain ⟨res, hres⟩ : ∃ res : ByteArray, res = ⟨(Mx.prtL ⟨nm, fn, ps, va, body⟩).toArray⟩ := ⟨_, rfl⟩
  rw [← hres]
  have hrl : res.size ≤ 1000000000 := by rw [hres]; show (Mx.prtL _).toArray.size ≤ _; simpa using hl
  have hrd : res.data.toList = Mx.hdL ⟨nm, fn, ps, va, body⟩ ++ Mx.bdL (ts.map (ofT 0)) := by rw [hres, ← hts, ← hhd]
  obtain ⟨pa, pc, rfl, -⟩ := id hp.1
  obtain ⟨m, hm⟩ : ∃ m, m = ps.length := ⟨_, rfl⟩
  rw [← hm] at hp hpl ⊢
  obtain ⟨ba, bn, bc, rfl⟩ : ∃ a n c, bv = .slice a n c := by obtain ⟨a, c, e, -⟩ := hb; exact ⟨a, _, c, e⟩
  have hB0 : Below w.heap.size w (w.alloc (.cells #[.string nm, .bool fn, .slice pa m pc, .bool va, .slice ba bn bc] 26)) := (Below.refl _ w).alloc (Nat.le_refl _) _
  have hbox := heap_alloc_new w (.cells #[.string nm, .bool fn, .slice pa m pc, .bool va, .slice ba bn bc] 26)
  have HP := Lib.hid (hp.below hB0)
  have HKS := Lib.hid (hb.below hB0)
  have HB0 := Lib.hid hB0
  have HBOX := Lib.hid hbox
  have HRD := Lib.hid hrd
  have HRL := Lib.hid hrl
  have Hm := Lib.hid hm
  clear hp hb hts hl hhd hres hrl hrd hB0 hbox hm
  cases fn
  · go_enter Tryd.func19, Tryd.ntmps19
    show Code.wp Tryd.prog (secs 0 rprintBody) _ _ _
    refine wp_sec 0 rprintBody rfl ?_
    conv => arg 2; whnf
    go_wp2_with fail
    refine wp_sec 1 rprintBody rfl ?_
    conv => arg 2; whnf
    go_wp2_with fail
    refine wp_sec 2 rprintBody rfl ?_
    conv => arg 2; whnf
    go_wp2_with fail
    refine rprint_tail w _ w.heap.size nm nm false va _ _ ts res HBOX.out HKS.out HB0.out ?_ HRL.out htl _ _ _ _ _ _ _ _ _ _ _ _ _ _ _ _ _ _ _ _ _ _ _ _ _ _ _ _ _ _ _ _ _ _ _ _ _ _ _ _ _ _ _ _ _ _ _ _ _ _ _ _ _ _ _
    rw [HRD.out]
    simp [Mx.hdL]
  · have hsz : nm.size + (Mx.jn (withDots ps va)).length + 2 ≤ 1000000000 := by
      have h1 := congrArg List.length HRD.out
      have h2 := HRL.out
      simp only [Mx.hdL, if_true, List.length_append, List.length_cons, List.length_nil, size_list] at h1
      show nm.size + (Go.Lib.join _ [44, 32]).length + 2 ≤ _
      omega
    have hjd : (Mx.jn ps).length + (if va && decide (0 < m) then 2 else 0) + (if va then 3 else 0) ≤ (Mx.jn (withDots ps va)).length := by
      cases va with
      | false => simp [withDots]
      | true =>
        show _ ≤ (Mx.jn (ps ++ [Mx.EL])).length
        rw [Mx.jn_snoc]
        by_cases hp0 : ps = []
        · subst hp0
          have : m = 0 := Hm.out
          simp [this, Mx.jn_nil, Mx.EL]
        · rw [if_neg hp0]
          simp [Mx.SEP, Mx.EL]
          split <;> omega
    have HSZ := Lib.hid hsz
    have HJD := Lib.hid hjd
    obtain ⟨o1, ho1⟩ : ∃ o1 : ByteArray, o1 = ⟨(nm.data.toList ++ [40]).toArray⟩ := ⟨_, rfl⟩
    have HO1 := Lib.hid ho1
    have had1 : ∀ W, (Op.stringOp .add nm ⟨#[40]⟩).run Tryd.prog W = .ok (.string o1) W := fun W => add_ba _ _ _ (by show nm.size + 1 ≤ _; omega) (by rw [ho1]) W
    clear hsz hjd ho1
    go_enter Tryd.func19, Tryd.ntmps19
    show Code.wp Tryd.prog (secs 0 rprintBody) _ _ _
    refine wp_sec 0 rprintBody rfl ?_
    conv => arg 2; whnf
    go_wp2_with fail
    generalize w.alloc (.cells #[.string nm, .bool true, .slice pa m pc, .bool va, .slice ba bn bc] 26) = W0 at HP HKS HB0 HBOX ⊢
    obtain ⟨c0, c1, c2, c3, c4⟩ := box_cells HBOX.out
    have hlt0 := lt_of_block HBOX.out
    refine wp_sec 1 rprintBody rfl ?_
    conv => arg 2; whnf
    go_wp2_with fail
    refine wp_sec 2 rprintBody rfl ?_
    conv => arg 2; whnf
    go_wp2_with fail
    clear had1
    go_loop [3, 4] (fun s i => ∃ (k : Nat) (x : ByteArray), i = .int .i64 k ∧ k ≤ m ∧ s = .string x ∧ x.data.toList = o1.data.toList ++ Mx.jn (ps.take k)) (fun _ i => m - (intOf i).toNat)
    case atStart => exact ⟨0, o1, rfl, Nat.zero_le _, rfl, by simp [Mx.jn_nil]⟩
    case round =>
      obtain ⟨k, x, rfl, hk, rfl, hx⟩ := hrel
      have HX := Lib.hid hx
      clear hx
      have hxs : x.size + (if va && decide (0 < m) then 2 else 0) + (if va then 3 else 0) + 1 ≤ 1000000000 := by
        have h1 := congrArg List.length HX.out
        rw [HO1.out] at h1
        have h2 := Mx.jn_take_le ps k (by rw [← Hm.out]; exact hk)
        have h3 := HSZ.out
        have h4 := HJD.out
        simp only [List.length_append, List.length_cons, List.length_nil, size_list] at h1
        omega
      have HXS := Lib.hid hxs
      clear hxs
      by_cases hlt : k < m
      · obtain ⟨p, hpk⟩ : ∃ p, ps[k]? = some p := ⟨_, List.getElem?_eq_getElem (by rw [← Hm.out]; exact hlt)⟩
        obtain ⟨g, o, cap', hv', -, -, hgl, hcs⟩ := (HP.out.1).cells (by rw [← Hm.out]; omega)
        injection hv' with v1 v2 v3
        subst v1 v3
        have d0 := hcs k p hpk
        have y1 : (0 : Int) ≤ k := by omega
        have y2 : (k : Int) < m := by omega
        have hjt := Mx.jn_take ps k p hpk
        have hle := Mx.jn_take_le ps (k + 1) (by rw [← Hm.out]; exact hlt)
        obtain ⟨y, hy⟩ : ∃ y : ByteArray, y = ⟨(o1.data.toList ++ Mx.jn (ps.take (k + 1))).toArray⟩ := ⟨_, rfl⟩
        have hyd : y.data.toList = o1.data.toList ++ Mx.jn (ps.take (k + 1)) := by rw [hy]
        have hyl : y.size ≤ 1000000000 := by
          have h1 := congrArg List.length hyd
          rw [HO1.out] at h1
          have h3 := HSZ.out
          have h4 := HJD.out
          simp only [List.length_append, List.length_cons, List.length_nil, size_list] at h1
          omega
        have HYD := Lib.hid hyd
        clear hcs hy
        by_cases hk0 : k = 0
        · subst hk0
          have had2 : ∀ W, (Op.stringOp .add x p).run Tryd.prog W = .ok (.string y) W := by
            rw [if_pos rfl, List.nil_append] at hjt
            have e : y.data.toList = x.data.toList ++ p.data.toList := by rw [hyd, HX.out, hjt]; simp [Mx.jn_nil]
            have h1 := congrArg List.length e
            simp only [List.length_append, size_list] at h1
            exact fun W => add_ba _ _ _ (by omega) e W
          clear hjt hle hyd hyl hpk
          simp only [Nat.add_zero] at d0
          go_wp2_with fail
          go_round
          case rel => exact ⟨0 + 1, y, by go_num, by omega, rfl, HYD.out⟩
          case measure => simp [intOf]; omega
        · rw [if_neg hk0] at hjt
          have y3 : (0 : Int) < k := by omega
          obtain ⟨z, hz⟩ : ∃ z : ByteArray, z = ⟨(x.data.toList ++ [44, 32]).toArray⟩ := ⟨_, rfl⟩
          have hzd : z.data.toList = x.data.toList ++ [44, 32] := by rw [hz]
          have e : y.data.toList = z.data.toList ++ p.data.toList := by rw [hyd, hzd, HX.out, hjt]; simp [Mx.SEP, List.append_assoc]
          have h1 := congrArg List.length e
          have h2 := congrArg List.length hzd
          simp only [List.length_append, List.length_cons, List.length_nil, size_list] at h1 h2
          have had2 : ∀ W, (Op.stringOp .add x ⟨#[44, 32]⟩).run Tryd.prog W = .ok (.string z) W := fun W => add_ba _ _ _ (by show x.size + 2 ≤ _; omega) hzd W
          have had3 : ∀ W, (Op.stringOp .add z p).run Tryd.prog W = .ok (.string y) W := fun W => add_ba _ _ _ (by omega) e W
          clear hjt hle hyd hyl hpk hz hzd e h1 h2
          go_wp2_with fail
          go_round
          case rel => exact ⟨k + 1, y, by go_num, by omega, rfl, HYD.out⟩
          case measure => simp [intOf]; omega
      · have hkm : k = m := by omega
        subst hkm
        have hxd : x.data.toList = o1.data.toList ++ Mx.jn ps := by have := HX.out; rwa [List.take_of_length_le (by rw [← Hm.out]; exact Nat.le_refl _)] at this
        have HXD := Lib.hid hxd
        have y2 : ¬ (k : Int) < k := by omega
        clear hxd hlt
        obtain ⟨out, hout⟩ : ∃ out : ByteArray, out = ⟨(nm.data.toList ++ 40 :: (Mx.jn (withDots ps va) ++ [41])).toArray⟩ := ⟨_, rfl⟩
        have hod : out.data.toList = nm.data.toList ++ 40 :: (Mx.jn (withDots ps va) ++ [41]) := by rw [hout]
        have HO := Lib.hid (show res.data.toList = out.data.toList ++ Mx.bdL (ts.map (ofT 0)) by rw [HRD.out, hod]; rfl)
        have hxd := HXD.out
        rw [HO1.out] at hxd
        have hxs := HXS.out
        clear hout
        cases va
        · have had2 : ∀ W, (Op.stringOp .add x ⟨#[41]⟩).run Tryd.prog W = .ok (.string out) W := fun W => add_ba _ _ _ (by show x.size + 1 ≤ _; omega) (by rw [hod, hxd]; simp [withDots]) W
          clear hod hxd hxs
          go_wp2_with fail
          exact rprint_tail w _ w.heap.size out nm true false _ _ ts res HBOX.out HKS.out HB0.out HO.out HRL.out htl _ _ _ _ _ _ _ _ _ _ _ _ _ _ _ _ _ _ _ _ _ _ _ _ _ _ _ _ _ _ _ _ _ _ _ _ _ _ _ _ _ _ _ _ _ _ _ _ _ _ _ _ _ _ _
        · by_cases hm0 : k = 0
          · have hp0 : ps = [] := List.length_eq_zero_iff.1 (by rw [← Hm.out, hm0])
            have y4 : ¬ (0 : Int) < k := by omega
            obtain ⟨z, hz⟩ : ∃ z : ByteArray, z = ⟨(x.data.toList ++ [46, 46, 46]).toArray⟩ := ⟨_, rfl⟩
            have hzd : z.data.toList = x.data.toList ++ [46, 46, 46] := by rw [hz]
            have h2 := congrArg List.length hzd
            simp only [List.length_append, List.length_cons, List.length_nil, size_list] at h2
            have had2 : ∀ W, (Op.stringOp .add x ⟨#[46, 46, 46]⟩).run Tryd.prog W = .ok (.string z) W := fun W => add_ba _ _ _ (by show x.size + 3 ≤ _; omega) hzd W
            have had3 : ∀ W, (Op.stringOp .add z ⟨#[41]⟩).run Tryd.prog W = .ok (.string out) W := fun W => add_ba _ _ _ (by show z.size + 1 ≤ _; omega) (by rw [hod, hzd, hxd, hp0]; simp [withDots, Mx.jn, Go.Lib.join_one, Go.Lib.join_nil, Mx.EL]) W
            clear hod hxd hxs hp0 hz hzd h2 hm0
            go_wp2_with fail
            exact rprint_tail w _ w.heap.size out nm true true _ _ ts res HBOX.out HKS.out HB0.out HO.out HRL.out htl _ _ _ _ _ _ _ _ _ _ _ _ _ _ _ _ _ _ _ _ _ _ _ _ _ _ _ _ _ _ _ _ _ _ _ _ _ _ _ _ _ _ _ _ _ _ _ _ _ _ _ _ _ _ _
          · have hp0 : ps ≠ [] := fun e => hm0 (by rw [Hm.out, e]; rfl)
            have y4 : (0 : Int) < k := by omega
            have y5 : 0 < k := by omega
            rw [if_pos (by simp [y5]), if_pos rfl] at hxs
            obtain ⟨y, hy⟩ : ∃ y : ByteArray, y = ⟨(x.data.toList ++ [44, 32]).toArray⟩ := ⟨_, rfl⟩
            have hyd : y.data.toList = x.data.toList ++ [44, 32] := by rw [hy]
            obtain ⟨z, hz⟩ : ∃ z : ByteArray, z = ⟨(y.data.toList ++ [46, 46, 46]).toArray⟩ := ⟨_, rfl⟩
            have hzd : z.data.toList = y.data.toList ++ [46, 46, 46] := by rw [hz]
            have h2 := congrArg List.length hzd
            have h3 := congrArg List.length hyd
            simp only [List.length_append, List.length_cons, List.length_nil, size_list] at h2 h3
            have had1 : ∀ W, (Op.stringOp .add x ⟨#[44, 32]⟩).run Tryd.prog W = .ok (.string y) W := fun W => add_ba _ _ _ (by show x.size + 2 ≤ _; omega) hyd W
            have had2 : ∀ W, (Op.stringOp .add y ⟨#[46, 46, 46]⟩).run Tryd.prog W = .ok (.string z) W := fun W => add_ba _ _ _ (by show y.size + 3 ≤ _; omega) hzd W
            have had3 : ∀ W, (Op.stringOp .add z ⟨#[41]⟩).run Tryd.prog W = .ok (.string out) W := fun W => add_ba _ _ _ (by show z.size + 1 ≤ _; omega) (by rw [hod, hzd, hyd, hxd]; simp [withDots, Mx.jn_snoc, hp0, Mx.SEP, Mx.EL]) W
            clear hod hxd hxs hp0 hz hzd hy hyd h2 h3 hm0
            go_wp2_with fail
            exact rprint_tail w _ w.heap.size out nm true true _ _ ts res HBOX.out HKS.out HB0.out HO.out HRL.out htl _ _ _ _ _ _ _ _ _ _ _ _ _ _ _ _ _ _ _ _ _ _ _ _ _ _ _ _ _ _ _ _ _ _ _ _ _ _ _ _ _ _ _ _ _ _ _ _ _ _ _ _ _ _ _
end Go.Proofs.YtfjbmenakcnadaaDoor

/- What is proved: how long what is printed of a text's macro is; no parameter has VA's name (plain). -/
namespace Go.Proofs.YtfjbmenakcnadaaDoor
namespace Mx

/-- How much room parameters take up. -/
def sw : List ByteArray → Nat
  | [] => 0
  | p :: r => p.size + 2 + sw r
theorem sw_append (a b : List ByteArray) : sw (a ++ b) = sw a + sw b := by
  induction a with
  | nil => simp [sw]
  | cons x r ih => simp [sw, ih]; omega
theorem sw_len (a : List ByteArray) : a.length ≤ sw a := by
  induction a with
  | nil => simp [sw]
  | cons x r ih => simp [sw]; omega
theorem plist_sw (n : Nat) : ∀ (l : List K) (acc : List ByteArray) (res : List ByteArray × Bool × List K), l.length ≤ n → plist acc l = some res → sw res.1 + wt res.2.2 ≤ sw acc + wt l := by
  induction n with
  | zero =>
    intro l acc res hn h
    rw [List.length_eq_zero_iff.1 (Nat.le_zero.1 hn)] at h
    simp [plist] at h
  | succ n ih =>
    intro l acc res hn h
    rcases l with _ | ⟨a, _ | ⟨b, r⟩⟩
    · simp [plist] at h
    · simp [plist] at h
    · simp only [plist] at h
      simp only [wt]
      split at h
      · split at h
        · injection h with h
          subst h
          dsimp only
          omega
        · cases h
      · split at h
        · split at h
          · injection h with h
            subst h
            dsimp only
            rw [sw_append]
            simp only [sw]
            omega
          · split at h
            · have := ih r _ res (by simp only [List.length_cons] at hn; omega) h
              rw [sw_append] at this
              simp only [sw] at this
              omega
            · cases h
        · cases h
theorem brack_sw {r : List K} {fn : Bool} {ps : List ByteArray} {va : Bool} {b : List K} (h : brack r = .ok (fn, ps, va, b)) : sw ps + wt b ≤ wt r := by
  rcases r with _ | ⟨u, r⟩
  · simp only [brack, Except.ok.injEq, Prod.mk.injEq] at h
    obtain ⟨rfl, rfl, rfl, rfl⟩ := h
    simp [sw, wt]
  · simp only [brack] at h
    split at h
    · simp only [Except.ok.injEq, Prod.mk.injEq] at h
      obtain ⟨rfl, rfl, rfl, rfl⟩ := h
      simp [sw]
    · split at h
      · split at h
        · cases h
        · rename_i c r''
          split at h
          · simp only [Except.ok.injEq, Prod.mk.injEq] at h
            obtain ⟨rfl, rfl, rfl, rfl⟩ := h
            simp [sw, wt]; omega
          · split at h
            · cases h
            · rename_i ps' va' l' hpl
              simp only [Except.ok.injEq, Prod.mk.injEq] at h
              obtain ⟨rfl, rfl, rfl, rfl⟩ := h
              have := plist_sw _ _ _ _ (Nat.le_refl _) hpl
              simp only [sw] at this
              simp only [wt] at this ⊢
              omega
      · cases h
theorem joinB_len : ∀ ws : List (List UInt8), (Lx.joinB [44, 32] ws).length ≤ (ws.map fun w => w.length + 2).sum + 1
  | [] => by simp [Lx.joinB]
  | [w] => by simp [Lx.joinB]
  | w :: w' :: r => by
    have := joinB_len (w' :: r)
    simp only [Lx.joinB, List.length_append, List.map_cons, List.sum_cons, List.length_cons, List.length_nil] at this ⊢
    omega
theorem items_len (ps : List ByteArray) (va : Bool) : ((itemsT ps va).map fun w => w.length + 2).sum ≤ sw ps + 5 := by
  have e : (ps.map fun p => p.data.toList.length + 2).sum = sw ps := by
    induction ps with
    | nil => rfl
    | cons p r ih => rw [List.map_cons, List.sum_cons, ih, sw]; simp
  cases va with
  | false =>
    simp only [itemsT, Bool.false_eq_true, if_false, List.append_nil, List.map_map]
    rw [show ((fun w : List UInt8 => w.length + 2) ∘ fun p : ByteArray => p.data.toList) = fun p => p.data.toList.length + 2 from rfl, e]
    omega
  | true =>
    simp only [itemsT, if_true, List.map_append, List.map_map, List.sum_append]
    rw [show ((fun w : List UInt8 => w.length + 2) ∘ fun p : ByteArray => p.data.toList) = fun p => p.data.toList.length + 2 from rfl, e]
    simp
theorem prA_wt : ∀ l : List K, (Lx.prA (l.map klA)).length ≤ wt l
  | [] => by simp [Lx.prA, wt]
  | t :: r => by
    have := prA_wt r
    rw [List.map_cons, Lx.prA_cons]
    have h1 : (if (klA t).2.2 = true then [(32 : UInt8)] else []).length ≤ 1 := by cases (klA t).2.2 <;> simp
    have h2 : (klA t).2.1.length = t.text.size := size_list _
    simp only [wt, List.length_append]
    omega
theorem wt_bare (l : List K) : wt (bare l) = wt l := by cases l <;> rfl
/-- How long what is printed of a text's macro can be. -/
theorem prtL_le (l : List K) : (prtL (defi l).1).length ≤ wt l + 10 := by
  rcases Decidable.em ((defi l).2 = 0) with h | h
  · obtain ⟨t, r, fn, ps, va, b, rfl, hn, hb, hd⟩ := defi_out h
    have h1 := brack_sw hb
    rw [hd] at h ⊢
    rw [bodyOf_ok h]
    unfold prtL
    dsimp only
    have h2 := joinB_len (itemsT ps va)
    have h3 := items_len ps va
    have h4 := prA_wt (bare (bare b))
    rw [wt_bare, wt_bare] at h4
    simp only [List.length_append, size_list, wt]
    have h5 : (if fn = true then 40 :: Lx.joinB [44, 32] (itemsT ps va) else []).length ≤ sw ps + 7 := by
      split
      · simp; omega
      · simp
    have h6 : (if bare b = [] then [] else 32 :: Lx.prA (List.map klA (bare (bare b)))).length ≤ wt b + 1 := by
      split
      · simp
      · simp; omega
    omega
  · rw [defi_zero l h]
    simp [M.zero, prtL]
theorem okAll_VA : ∀ (ps acc : List ByteArray), okAll acc ps = true → has ps VA = false
  | [], _, _ => rfl
  | p :: r, acc, h => by
    simp only [okAll, Bool.and_eq_true, Bool.not_eq_true', decide_eq_false_iff_not] at h
    have := okAll_VA r _ h.2
    simp [has] at this ⊢
    exact ⟨h.1.1, this⟩
theorem df_ps (l : List K) : has (defi l).1.ps VA = false ∧ (defi l).1.ps.length ≤ wt l := by
  rcases Decidable.em ((defi l).2 = 0) with h | h
  · obtain ⟨t, r, fn, ps, va, b, rfl, hn, hb, hd⟩ := defi_out h
    have h1 := brack_sw hb
    have h2 := sw_len ps
    rw [hd] at h ⊢
    rw [bodyOf_ok h]
    exact ⟨okAll_VA ps [] (brack_out hb).1, by simp only [wt]; omega⟩
  · rw [defi_zero l h]
    exact ⟨rfl, Nat.zero_le _⟩
/-- A text's macro's body, as tokens of a text. -/
theorem df_body (s : ByteArray) : ∃ ts : List Lx.T, (df s).1.body = ts.map (ofT 0) ∧ ts.length ≤ wt (ks s) := by
  rcases Decidable.em ((df s).2 = 0) with h | h
  · obtain ⟨t, r, fn, ps, va, b, hl, hn, hb, hd⟩ := defi_out h
    have hm : (df s).1 = ⟨t.text, fn, ps, va, bare b⟩ := by
      show (defi (ks s)).1 = _
      rw [hd]
      exact bodyOf_ok (by rw [← hd]; exact h)
    obtain ⟨pre, hsuf⟩ := brack_suffix hb
    have e : ∃ ts : List Lx.T, b = ts.map (ofT 0) := by
      have hl' := hl
      unfold ks at hl'
      obtain ⟨x, l2, -, -, hr⟩ := List.map_eq_cons_iff.1 hl'
      rw [← hsuf] at hr
      obtain ⟨-, l4, -, -, h4⟩ := List.map_eq_append_iff.1 hr
      exact ⟨l4, h4.symm⟩
    obtain ⟨ts, rfl⟩ := e
    have hlen := wt_len (ks s)
    rw [hl] at hlen
    have h2 := congrArg List.length hsuf
    rw [hm]
    simp only [List.length_append, List.length_map, List.length_cons] at h2 hlen
    cases ts with
    | nil => exact ⟨[], rfl, by simp⟩
    | cons x q =>
      refine ⟨{ x with bl := false } :: q, rfl, ?_⟩
      rw [hl]
      simp only [List.length_cons] at h2 ⊢
      omega
  · refine ⟨[], ?_, Nat.zero_le _⟩
    show (defi (ks s)).1.body = _
    rw [defi_zero (ks s) h]
    rfl
end Mx
end Go.Proofs.YtfjbmenakcnadaaDoor

/- What is proved: MacroTells answers true, in whatever memory. -/
namespace Go.Proofs.YtfjbmenakcnadaaDoor
open Go.RowKit Go.Shelf Go.WideMaps

/-- The law's own define, its answer with names. -/
def DefA (w : World) (res : Mx.M × Int) (e : Ending) (w' : World) : Prop :=
  ∃ nm fn pa pn pc va ba bn bc, e = .returned (.tuple #[.agg #[.string nm, .bool fn, .slice pa pn pc, .bool va, .slice ba bn bc], .int .i64 res.2]) ∧ MA w' (.agg #[.string nm, .bool fn, .slice pa pn pc, .bool va, .slice ba bn bc]) res.1 ∧ Below w.heap.size w w'
theorem ldef_ma (s : ByteArray) (hs : s.size ≤ 10000000) (w : World) (hG : Glob w) : Calls Tryd.prog 10 #[.string s] w (DefA w (Mx.df s)) := by
  refine (ldef_any s hs w hG).mono ?_
  rintro e W ⟨mv, rfl, hm, hB⟩
  obtain ⟨pv, bv, rfl, hp, hb⟩ := id hm
  obtain ⟨pa, pn, pc, rfl⟩ := row_slice hp
  obtain ⟨ba, bn, bc, rfl⟩ := row_slice hb
  exact ⟨_, _, _, _, _, _, _, _, _, rfl, hm.ma, hB⟩
/-- What must be known of a text's macro to print it. -/
structure Fit (r : Mx.M) : Prop where
  body : ∃ ts : List Lx.T, r.body = ts.map (ofT 0) ∧ ts.length ≤ 20000000
  len : (Mx.prtL r).length ≤ 20000010
  ps : r.ps.length ≤ 20000000
  va : Mx.has r.ps Mx.VA = false
  rng : r.body.length * 56 ≤ 140737488355328
theorem fit_df (s : ByteArray) (hs : s.size ≤ 10000000) : Fit (Mx.df s).1 := by
  have hwt := Mx.ks_wt s
  have h1 := Mx.prtL_le (Mx.ks s)
  obtain ⟨h2, h3⟩ := Mx.df_ps (Mx.ks s)
  obtain ⟨ts, h4, h5⟩ := Mx.df_body s
  refine ⟨⟨ts, h4, by omega⟩, ?_, ?_, h2, ?_⟩
  · show (Mx.prtL (Mx.defi (Mx.ks s)).1).length ≤ _; omega
  · show (Mx.defi (Mx.ks s)).1.ps.length ≤ _; omega
  · rw [h4, List.length_map]; omega
theorem MA.parts {W : World} {nm : ByteArray} {fn va : Bool} {pv bv : Value} {m : Mx.M} (h : MA W (.agg #[.string nm, .bool fn, pv, .bool va, bv]) m) : va = m.va ∧ Sts W pv m.ps ∧ ∃ a n c, bv = .slice a n c := by
  obtain ⟨pv', bv', e, h1, h2⟩ := h
  simp only [Value.agg.injEq, Array.mk.injEq, List.cons.injEq, Value.string.injEq, Value.bool.injEq, and_true] at e
  obtain ⟨-, -, rfl, rfl, rfl⟩ := e
  obtain ⟨a, c, rfl, -⟩ := h2
  exact ⟨rfl, h1.1, _, _, _, rfl⟩
theorem fprint_any {v : Value} {m : Mx.M} {w : World} (hf : Fit m) (hv : MA w v m) : Calls Tryd.prog 16 #[v] w fun e w' => e = .returned (.string ⟨(Mx.prtL m).toArray⟩) ∧ Below w.heap.size w w' := by
  obtain ⟨ts, h1, h2⟩ := hf.body
  have h3 := hf.len
  have h4 := hf.ps
  exact mprint_any v m ts w hv h1 (by omega) (by omega) (by omega)
theorem frprint_any {v : Value} {m : Mx.M} {w : World} (hf : Fit m) (hv : MA w v m) : Calls Tryd.prog 19 #[v] w fun e w' => e = .returned (.string ⟨(Mx.prtL m).toArray⟩) ∧ Below w.heap.size w w' := by
  obtain ⟨ts, h1, h2⟩ := hf.body
  have h3 := hf.len
  have h4 := hf.ps
  exact rmprint_any v m ts w hv h1 (by omega) (by omega) (by omega)
theorem fparam_any {nm : ByteArray} {fn va : Bool} {pv bv : Value} {m : Mx.M} {w : World} (name : ByteArray) (hf : Fit m) (hv : MA w (.agg #[.string nm, .bool fn, pv, .bool va, bv]) m) :
    Calls Tryd.prog 17 #[.agg #[.string nm, .bool fn, pv, .bool va, bv], .string name] w fun e w' => e = .returned (.int .i64 (Mx.rpidx m.ps m.va name)) ∧ Below w.heap.size w w' := by
  obtain ⟨rfl, h1, h2⟩ := hv.parts
  have := mparam_any nm name fn m.va pv bv m.ps w h1 h2
  rwa [Mx.mpidx_eq _ _ _ hf.va] at this
theorem frparam_any {nm : ByteArray} {fn va : Bool} {pv bv : Value} {m : Mx.M} {w : World} (name : ByteArray) (hv : MA w (.agg #[.string nm, .bool fn, pv, .bool va, bv]) m) :
    Calls Tryd.prog 20 #[.agg #[.string nm, .bool fn, pv, .bool va, bv], .string name] w fun e w' => e = .returned (.int .i64 (Mx.rpidx m.ps m.va name)) ∧ Below w.heap.size w w' := by
  obtain ⟨rfl, h1, h2⟩ := hv.parts
  exact rparam_any nm name fn m.va pv bv m.ps w h1 h2

set_option maxRecDepth 100000 in
set_option maxHeartbeats 8000000 in
theorem ltells_any (s t name : ByteArray) (hs : s.size ≤ maxLen) (ht : t.size ≤ maxLen) (_hn : name.size ≤ maxLen) (w : World) (hG : Glob w) : Calls Tryd.prog 5 #[.string s, .string t, .string name] w (TruePost w) := by
  unfold maxLen at hs ht
  clear _hn
  have HG := Lib.hid hG
  clear hG
  by_cases h1 : s.size ≤ 500
  · by_cases h2 : t.size ≤ 500
    · have y1 : ¬ (500 : Int) < s.size := by omega
      have y2 : ¬ (500 : Int) < t.size := by omega
      have LS := Lib.hid (show s.size ≤ 10000000 by omega)
      have LT := Lib.hid (show t.size ≤ 10000000 by omega)
      have fa := fit_df s LS.out
      have fb := fit_df t LT.out
      obtain ⟨ra, hra⟩ : ∃ r, r = Mx.df s := ⟨_, rfl⟩
      obtain ⟨rb, hrb⟩ : ∃ r, r = Mx.df t := ⟨_, rfl⟩
      have da := fun w' h => ldef_ma s LS.out w' h
      have db := fun w' h => ldef_ma t LT.out w' h
      rw [← hra] at da fa
      rw [← hrb] at db fb
      obtain ⟨X, hX⟩ : ∃ X, X = Mx.same ra.1 rb.1 := ⟨_, rfl⟩
      obtain ⟨P, hP⟩ : ∃ P : ByteArray, P = ⟨(Mx.prtL ra.1).toArray⟩ := ⟨_, rfl⟩
      obtain ⟨Z, hZ⟩ : ∃ Z, Z = Mx.rpidx ra.1.ps ra.1.va name := ⟨_, rfl⟩
      have HX := Lib.hid hX
      have HP := Lib.hid hP
      have HZ := Lib.hid hZ
      have FA := Lib.hid fa
      have FB := Lib.hid fb
      clear hra hrb hX hP hZ fa fb h1 h2 hs ht
      go_enter Tryd.func5, Tryd.ntmps5
      go_wp2_with fail
      refine (awake_any _ HG.out).mono ?_
      rintro e w0 ⟨rfl, hB0⟩
      go_wp2_with fail
      refine (da _ (HG.out.later hB0)).mono ?_
      rintro e w1 ⟨n1, f1, p1, q1, r1, v1, b1, c1, d1, rfl, m1, hB10⟩
      replace hB10 := Below.then hB0 hB10
      have hB1 := hB10.alloc hB10.size (.cells #[.string n1, .bool f1, .slice p1 q1 r1, .bool v1, .slice b1 c1 d1] 26)
      have hA1 : Below w1.heap.size w1 (w1.alloc (.cells #[.string n1, .bool f1, .slice p1 q1 r1, .bool v1, .slice b1 c1 d1] 26)) := (Below.refl _ _).alloc (Nat.le_refl _) _
      have k1 := heap_alloc_new w1 (.cells #[.string n1, .bool f1, .slice p1 q1 r1, .bool v1, .slice b1 c1 d1] 26)
      replace m1 := m1.below hA1
      clear hA1 hB10 hB0
      go_wp2_with fail
      refine (db _ (HG.out.later hB1)).mono ?_
      rintro e w2 ⟨n2, f2, p2, q2, r2, v2, b2, c2, d2, rfl, m2, hB20⟩
      replace k1 := (hB20.block _ (lt_of_block k1)).trans k1
      replace m1 := m1.below hB20
      replace hB20 := Below.then hB1 hB20
      have hB2 := hB20.alloc hB20.size (.cells #[.string n2, .bool f2, .slice p2 q2 r2, .bool v2, .slice b2 c2 d2] 26)
      have hA2 : Below w2.heap.size w2 (w2.alloc (.cells #[.string n2, .bool f2, .slice p2 q2 r2, .bool v2, .slice b2 c2 d2] 26)) := (Below.refl _ _).alloc (Nat.le_refl _) _
      replace k1 := (hA2.block _ (lt_of_block k1)).trans k1
      replace m1 := m1.below hA2
      have k2 := heap_alloc_new w2 (.cells #[.string n2, .bool f2, .slice p2 q2 r2, .bool v2, .slice b2 c2 d2] 26)
      replace m2 := m2.below hA2
      clear hA2 hB20 hB1
      obtain ⟨x10, x11, x12, x13, x14⟩ := box_cells k1
      obtain ⟨x20, x21, x22, x23, x24⟩ := box_cells k2
      go_wp2_with fail
      clear x10 x11 x12 x13 x14 x20 x21 x22 x23 x24
      refine (msame_any (.agg #[.string n1, .bool f1, .slice p1 q1 r1, .bool v1, .slice b1 c1 d1]) (.agg #[.string n2, .bool f2, .slice p2 q2 r2, .bool v2, .slice b2 c2 d2]) ra.1 rb.1 _ m1.mv m2.mv).mono ?_
      rw [← HX.out]
      rintro e V1 ⟨rfl, hC1⟩
      replace k1 := (hC1.block _ (lt_of_block k1)).trans k1
      replace k2 := (hC1.block _ (lt_of_block k2)).trans k2
      replace m1 := m1.below hC1
      replace m2 := m2.below hC1
      replace hB2 := Below.then hB2 hC1
      clear hC1
      obtain ⟨x10, x11, x12, x13, x14⟩ := box_cells k1
      go_wp2_with fail
      clear x10 x11 x12 x13 x14
      refine (fprint_any FA.out m1).mono ?_
      rw [← HP.out]
      rintro e V2 ⟨rfl, hC2⟩
      replace k1 := (hC2.block _ (lt_of_block k1)).trans k1
      replace k2 := (hC2.block _ (lt_of_block k2)).trans k2
      replace m1 := m1.below hC2
      replace m2 := m2.below hC2
      replace hB2 := Below.then hB2 hC2
      clear hC2
      obtain ⟨x10, x11, x12, x13, x14⟩ := box_cells k1
      go_wp2_with fail
      clear x10 x11 x12 x13 x14
      refine (fparam_any name FA.out m1).mono ?_
      rw [← HZ.out]
      rintro e V3 ⟨rfl, hC3⟩
      replace k1 := (hC3.block _ (lt_of_block k1)).trans k1
      replace k2 := (hC3.block _ (lt_of_block k2)).trans k2
      replace m1 := m1.below hC3
      replace m2 := m2.below hC3
      replace hB2 := Below.then hB2 hC3
      clear hC3
      obtain ⟨x10, x11, x12, x13, x14⟩ := box_cells k1
      obtain ⟨x20, x21, x22, x23, x24⟩ := box_cells k2
      go_wp2_with fail
      clear x10 x11 x12 x13 x14 x20 x21 x22 x23 x24
      refine (rsame_any (.agg #[.string n1, .bool f1, .slice p1 q1 r1, .bool v1, .slice b1 c1 d1]) (.agg #[.string n2, .bool f2, .slice p2 q2 r2, .bool v2, .slice b2 c2 d2]) ra.1 rb.1 _ m1.mv m2.mv FA.out.rng FB.out.rng).mono ?_
      rw [← HX.out]
      rintro e V4 ⟨rfl, hC4⟩
      replace k1 := (hC4.block _ (lt_of_block k1)).trans k1
      replace k2 := (hC4.block _ (lt_of_block k2)).trans k2
      replace m1 := m1.below hC4
      replace m2 := m2.below hC4
      replace hB2 := Below.then hB2 hC4
      clear hC4
      obtain ⟨x10, x11, x12, x13, x14⟩ := box_cells k1
      go_wp2_with fail
      clear x10 x11 x12 x13 x14
      refine (frprint_any FA.out m1).mono ?_
      rw [← HP.out]
      rintro e V5 ⟨rfl, hC5⟩
      replace k1 := (hC5.block _ (lt_of_block k1)).trans k1
      replace k2 := (hC5.block _ (lt_of_block k2)).trans k2
      replace m1 := m1.below hC5
      replace m2 := m2.below hC5
      replace hB2 := Below.then hB2 hC5
      clear hC5
      obtain ⟨x10, x11, x12, x13, x14⟩ := box_cells k1
      go_wp2_with fail
      clear x10 x11 x12 x13 x14
      refine (frparam_any name m1).mono ?_
      rw [← HZ.out]
      rintro e V6 ⟨rfl, hC6⟩
      replace k1 := (hC6.block _ (lt_of_block k1)).trans k1
      replace k2 := (hC6.block _ (lt_of_block k2)).trans k2
      replace m1 := m1.below hC6
      replace m2 := m2.below hC6
      replace hB2 := Below.then hB2 hC6
      clear hC6
      clear k1 k2 m1 m2
      go_wp2_with fail
      go_ret
      exact ⟨by first | rfl | simp, hB2⟩
    · have y1 : ¬ (500 : Int) < s.size := by omega
      have y2 : (500 : Int) < t.size := by omega
      go_enter Tryd.func5, Tryd.ntmps5
      go_wp2_with fail
      refine (awake_any _ HG.out).mono ?_
      rintro e w0 ⟨rfl, hB0⟩
      go_wp2_with fail
      go_ret
      exact ⟨rfl, hB0⟩
  · have y1 : (500 : Int) < s.size := by omega
    go_enter Tryd.func5, Tryd.ntmps5
    go_wp2_with fail
    refine (awake_any _ HG.out).mono ?_
    rintro e w0 ⟨rfl, hB0⟩
    go_wp2_with fail
    go_ret
    exact ⟨rfl, hB0⟩
end Go.Proofs.YtfjbmenakcnadaaDoor

/- What is proved: MacroBack answers true of every text of up to ten million bytes, in whatever memory. -/
namespace Go.Proofs.YtfjbmenakcnadaaDoor
open Go.RowKit Go.Shelf Go.WideMaps

theorem MA.body {W : World} {nm : ByteArray} {fn va : Bool} {pv bv : Value} {m : Mx.M} (h : MA W (.agg #[.string nm, .bool fn, pv, .bool va, bv]) m) : Ks W bv m.body := by
  obtain ⟨pv', bv', e, h1, h2⟩ := h
  simp only [Value.agg.injEq, Array.mk.injEq, List.cons.injEq, Value.string.injEq, Value.bool.injEq, and_true] at e
  obtain ⟨-, -, rfl, rfl, rfl⟩ := e
  exact h2

set_option maxRecDepth 100000 in
set_option maxHeartbeats 8000000 in
theorem lback_any (s : ByteArray) (hs : s.size ≤ 10000000) (w : World) (hG : Glob w) : Calls Tryd.prog 6 #[.string s] w (TruePost w) := by
  have HG := Lib.hid hG
  have LS := Lib.hid hs
  clear hG
  have fa := fit_df s LS.out
  obtain ⟨ra, hra⟩ : ∃ r, r = Mx.df s := ⟨_, rfl⟩
  have da := fun w' h => ldef_ma s LS.out w' h
  rw [← hra] at da fa
  have FA := Lib.hid fa
  have HRA := Lib.hid hra
  obtain ⟨er, her⟩ : ∃ er, er = ra.2 := ⟨_, rfl⟩
  have HER := Lib.hid her
  clear hra fa her
  by_cases h0 : er = 0
  · have t1 : (er != 0) = false := by simp [h0]
    by_cases h1 : s.size ≤ 500
    · have y1 : ¬ (500 : Int) < s.size := by omega
      have y1b : decide ((500 : Int) < s.size) = false := decide_eq_false y1
      have hpl : (Mx.prtL ra.1).length ≤ 1010 := by
        have hwt := Mx.ks_wt s
        have h1 := Mx.prtL_le (Mx.ks s)
        have : (Mx.prtL ra.1).length = (Mx.prtL (Mx.defi (Mx.ks s)).1).length := by rw [HRA.out]; rfl
        omega
      obtain ⟨P, hP⟩ : ∃ P : ByteArray, P = ⟨(Mx.prtL ra.1).toArray⟩ := ⟨_, rfl⟩
      have hPs : P.size ≤ 10000000 := by rw [hP]; show (Mx.prtL ra.1).toArray.size ≤ _; simp; omega
      have hPd : P.data.toList = Mx.prtL ra.1 := by rw [hP]
      have HP := Lib.hid hP
      have HPS := Lib.hid hPs
      have hback := Lib.hid (fun hk : ∀ t ∈ ra.1.body, t.kind ≠ 6 => Mx.df_back s P (by rw [← HRA.out, ← HER.out, h0]) (by rw [← HRA.out]; exact hk) (by rw [← HRA.out]; exact hPd))
      rw [← HRA.out] at hback
      have H0 := Lib.hid h0
      clear hpl hP hPs hPd h1 h0 hs
      go_enter Tryd.func6, Tryd.ntmps6
      go_wp2_with fail
      refine (awake_any _ HG.out).mono ?_
      rintro e w0 ⟨rfl, hB0⟩
      go_wp2_with fail
      refine (da _ (HG.out.later hB0)).mono ?_
      rintro e w1 ⟨n1, f1, p1, q1, r1, v1, b1, c1, d1, rfl, m1, hB10⟩
      replace hB10 := Below.then hB0 hB10
      have hB1 := hB10.alloc hB10.size (.cells #[.string n1, .bool f1, .slice p1 q1 r1, .bool v1, .slice b1 c1 d1] 26)
      have hA1 : Below w1.heap.size w1 (w1.alloc (.cells #[.string n1, .bool f1, .slice p1 q1 r1, .bool v1, .slice b1 c1 d1] 26)) := (Below.refl _ _).alloc (Nat.le_refl _) _
      have k1 := heap_alloc_new w1 (.cells #[.string n1, .bool f1, .slice p1 q1 r1, .bool v1, .slice b1 c1 d1] 26)
      replace m1 := m1.below hA1
      clear hA1 hB10 hB0
      rw [← HER.out]
      obtain ⟨nb, hnb⟩ : ∃ nb, nb = ra.1.body.length := ⟨_, rfl⟩
      have hks := m1.body
      obtain ⟨bad, bcap, hbe, -⟩ := id hks
      injection hbe with hb1 hb2 hb3
      subst hb1 hb2 hb3
      rw [← hnb] at hks k1 m1 hB1
      have hnl : nb ≤ 2600000000000 := by have := FA.out.rng; omega
      have Hnb := Lib.hid hnb
      have HKS := Lib.hid hks
      have HM1 := Lib.hid m1
      have HK1 := Lib.hid k1
      have HB1 := Lib.hid hB1
      obtain ⟨x10, x11, x12, x13, x14⟩ := box_cells k1
      clear hnb hks m1 k1 hB1
      rw [← Hnb.out]
      go_wp2_with fail
      generalize w1.alloc (.cells #[.string n1, .bool f1, .slice p1 q1 r1, .bool v1, .slice b1 nb d1] 26) = W1 at HKS HM1 HK1 HB1 x10 x11 x12 x13 x14 ⊢
      have hbx := lt_of_block HK1.out
      go_loop [6] (fun i => ∃ k : Nat, i = .int .i64 k ∧ k ≤ nb ∧ ∀ j t, j < k → ra.1.body[j]? = some t → t.kind ≠ 6) (fun i => nb - (intOf i).toNat)
      case atStart => exact ⟨0, rfl, Nat.zero_le _, fun j t hj => absurd hj (Nat.not_lt_zero _)⟩
      case round =>
        obtain ⟨k, rfl, hk, hno⟩ := hrel
        have HNO := Lib.hid hno
        clear hno
        by_cases hlt : k < nb
        · obtain ⟨x, hx⟩ : ∃ x, ra.1.body[k]? = some x := ⟨_, List.getElem?_eq_getElem (by rw [← Hnb.out]; exact hlt)⟩
          obtain ⟨g, o, hv', a0, -⟩ := (show ∃ g o, b1 = some ⟨g, o, none⟩ ∧ KAt W1 g (o + k * 6) x by
            obtain ⟨ad, cap, e, -, -, h3⟩ := HKS.out
            injection e with e1 e2 e3
            subst e1
            exact h3 k x hx)
          subst hv'
          have hgl := lt_of_cell a0
          have y3 : (0 : Int) ≤ k := by omega
          have y4 : (k : Int) < nb := by omega
          have HX := Lib.hid hx
          clear hx
          by_cases h6 : x.kind = 6
          · have t2 : (x.kind == 6) = true := by simpa using h6
            clear h6
            go_wp2_with fail
            go_ret
            exact ⟨rfl, HB1.out⟩
          · have t2 : (x.kind == 6) = false := by simpa using h6
            by_cases h7 : x.kind = 7
            · have t3 : (x.kind == 7) = true := by simpa using h7
              clear h6 h7
              go_wp2_with fail
              go_ret
              exact ⟨rfl, HB1.out⟩
            · have t3 : (x.kind == 7) = false := by simpa using h7
              have HNX := Lib.hid (show ∀ j t, j < k + 1 → ra.1.body[j]? = some t → t.kind ≠ 6 from fun j t hj ht => by
                rcases Nat.lt_or_ge j k with h | h
                · exact HNO.out j t h ht
                · obtain rfl : j = k := by omega
                  rw [HX.out] at ht
                  injection ht with ht
                  subst ht
                  exact h6)
              clear h6 h7
              go_wp2_with fail
              go_round
              case rel => exact ⟨k + 1, by go_num, by omega, HNX.out⟩
              case measure => simp [intOf]; omega
        · have y4 : ¬ (k : Int) < nb := by omega
          obtain ⟨hb1, hb2⟩ := hback.out (fun t ht => by
            obtain ⟨j, hj⟩ := List.mem_iff_getElem?.1 ht
            have := (List.getElem?_eq_some_iff.1 hj).1
            exact HNO.out j t (by rw [← Hnb.out] at this; omega) hj)
          have HS := Lib.hid hb2
          have db := fun w' h => ldef_ma P HPS.out w' h
          obtain ⟨rb, hrb⟩ : ∃ r, r = Mx.df P := ⟨_, rfl⟩
          rw [← hrb] at db hb1
          have HRB := Lib.hid hrb
          clear hb2 hlt hrb
          have k1 := HK1.out
          have m1 := HM1.out
          have hB1 := HB1.out
          obtain ⟨x10, x11, x12, x13, x14⟩ := box_cells k1
          go_wp2_with fail
          clear x10 x11 x12 x13 x14
          refine (fprint_any FA.out m1).mono ?_
          rw [← HP.out]
          rintro e V1 ⟨rfl, hC1⟩
          replace k1 := (hC1.block _ (lt_of_block k1)).trans k1
          replace m1 := m1.below hC1
          replace hB1 := Below.then hB1 hC1
          clear hC1
          go_wp2_with fail
          refine (db _ (HG.out.later hB1)).mono ?_
          rintro e w2 ⟨n2, f2, p2, q2, r2, v2, b2, c2, d2, rfl, m2, hB20⟩
          replace k1 := (hB20.block _ (lt_of_block k1)).trans k1
          replace m1 := m1.below hB20
          replace hB20 := Below.then hB1 hB20
          have hB2 := hB20.alloc hB20.size (.cells #[.string n2, .bool f2, .slice p2 q2 r2, .bool v2, .slice b2 c2 d2] 26)
          have hA2 : Below w2.heap.size w2 (w2.alloc (.cells #[.string n2, .bool f2, .slice p2 q2 r2, .bool v2, .slice b2 c2 d2] 26)) := (Below.refl _ _).alloc (Nat.le_refl _) _
          replace k1 := (hA2.block _ (lt_of_block k1)).trans k1
          replace m1 := m1.below hA2
          have k2 := heap_alloc_new w2 (.cells #[.string n2, .bool f2, .slice p2 q2 r2, .bool v2, .slice b2 c2 d2] 26)
          replace m2 := m2.below hA2
          clear hA2 hB20 hB1
          rw [hb1]
          clear hb1
          obtain ⟨x10, x11, x12, x13, x14⟩ := box_cells k1
          obtain ⟨x20, x21, x22, x23, x24⟩ := box_cells k2
          go_wp2_with fail
          clear x10 x11 x12 x13 x14 x20 x21 x22 x23 x24
          refine (msame_any (.agg #[.string n1, .bool f1, .slice p1 q1 r1, .bool v1, .slice b1 nb d1]) (.agg #[.string n2, .bool f2, .slice p2 q2 r2, .bool v2, .slice b2 c2 d2]) ra.1 rb.1 _ m1.mv m2.mv).mono ?_
          rw [show Mx.same ra.1 rb.1 = true by rw [HRB.out]; exact HS.out]
          rintro e V2 ⟨rfl, hC2⟩
          replace k1 := (hC2.block _ (lt_of_block k1)).trans k1
          replace k2 := (hC2.block _ (lt_of_block k2)).trans k2
          replace m1 := m1.below hC2
          replace m2 := m2.below hC2
          replace hB2 := Below.then hB2 hC2
          clear hC2
          clear k1 k2 m1 m2
          go_wp2_with fail
          go_ret
          exact ⟨by first | rfl | simp, hB2⟩
    · have y1 : (500 : Int) < s.size := by omega
      have y1b : decide ((500 : Int) < s.size) = true := decide_eq_true y1
      clear h0
      go_enter Tryd.func6, Tryd.ntmps6
      go_wp2_with fail
      refine (awake_any _ HG.out).mono ?_
      rintro e w0 ⟨rfl, hB0⟩
      go_wp2_with fail
      refine (da _ (HG.out.later hB0)).mono ?_
      rintro e w1 ⟨n1, f1, p1, q1, r1, v1, b1, c1, d1, rfl, m1, hB10⟩
      rw [← HER.out]
      go_wp2_with fail
      go_ret
      exact ⟨rfl, (Below.then hB0 hB10).alloc (Below.then hB0 hB10).size _⟩
  · have t1 : (er != 0) = true := by simpa using h0
    clear h0
    go_enter Tryd.func6, Tryd.ntmps6
    go_wp2_with fail
    refine (awake_any _ HG.out).mono ?_
    rintro e w0 ⟨rfl, hB0⟩
    go_wp2_with fail
    refine (da _ (HG.out.later hB0)).mono ?_
    rintro e w1 ⟨n1, f1, p1, q1, r1, v1, b1, c1, d1, rfl, m1, hB10⟩
    rw [← HER.out]
    go_wp2_with fail
    go_ret
    exact ⟨rfl, (Below.then hB0 hB10).alloc (Below.then hB0 hB10).size _⟩
end Go.Proofs.YtfjbmenakcnadaaDoor

/- What is proved: what One tells of a text. -/
namespace Go.Proofs.YtfjbmenakcnadaaDoor
open Go.RowKit Go.Shelf
open Lx (T)

/-- A token as a value. -/
def tokAgg (f : Int) (t : T) : Value := .agg #[.int .i64 t.kind, .string ⟨t.text.toArray⟩, .int .i64 f, .int .i64 t.fr, .int .i64 t.to, .bool t.bl]
def zeroTok : T := ⟨0, [], 0, 0, false⟩
/-- The token that a text is. -/
def oneOf (t : List UInt8) : Option T :=
  match Lx.tk false (Sp.left 0 t) with
  | [x] => if x.kind ≠ 7 ∧ x.text.length = t.length then some x else none
  | _ => none
def OnePost (w : World) (o : Option T) (e : Ending) (w' : World) : Prop := e = .returned (.tuple #[tokAgg 0 (o.getD zeroTok), .bool o.isSome]) ∧ Below w.heap.size w w'

set_option maxRecDepth 100000 in
set_option maxHeartbeats 4000000 in
theorem one_any (s : ByteArray) (hs : s.size ≤ 1000000000) (w : World) (hG : Glob w) : Calls Tryd.prog 21 #[.string s] w (OnePost w (oneOf s.data.toList)) := by
  have hB0 : Below w.heap.size w (w.alloc (.cells #[.int .i64 0, .string ⟨#[]⟩, .int .i64 0, .int .i64 0, .int .i64 0, .bool false] 39)) := (Below.refl _ w).alloc (Nat.le_refl _) _
  have HB0 := Lib.hid hB0
  have HG := Lib.hid (hG.later hB0)
  obtain ⟨ts, hts⟩ : ∃ ts, ts = Lx.tk false (Sp.left 0 s.data.toList) := ⟨_, rfl⟩
  obtain ⟨o, ho⟩ : ∃ o, o = oneOf s.data.toList := ⟨_, rfl⟩
  rw [← ho]
  unfold oneOf at ho
  rw [← hts] at ho
  have HT := Lib.hid hts
  have HO := Lib.hid ho
  clear hB0 hG hts ho
  go_enter Tryd.func21, Tryd.ntmps21
  go_wp2_with fail
  refine (tokens_any 0 s hs _ HG.out).mono ?_
  rintro e w1 ⟨v, rfl, hv, hB1⟩
  rw [← HT.out] at hv
  obtain ⟨ad, cap, rfl, -⟩ := id hv
  have hbk : w1.heap[w.heap.size]? = some (.cells #[.int .i64 0, .string ⟨#[]⟩, .int .i64 0, .int .i64 0, .int .i64 0, .bool false] 39 (0, 0)) := (hB1.block _ (by simp)).trans (heap_alloc_new w _)
  have hB : Below w.heap.size w w1 := HB0.out.trans (hB1.mono HB0.out.size)
  have c0 : w1.cell? ⟨w.heap.size, 0, none⟩ = some (.int .i64 0) := by rw [Lib.cell_of_heap hbk]; rfl
  have c1 : w1.cell? ⟨w.heap.size, 1, none⟩ = some (.string ⟨#[]⟩) := by rw [Lib.cell_of_heap hbk]; rfl
  have c2 : w1.cell? ⟨w.heap.size, 2, none⟩ = some (.int .i64 0) := by rw [Lib.cell_of_heap hbk]; rfl
  have c3 : w1.cell? ⟨w.heap.size, 3, none⟩ = some (.int .i64 0) := by rw [Lib.cell_of_heap hbk]; rfl
  have c4 : w1.cell? ⟨w.heap.size, 4, none⟩ = some (.int .i64 0) := by rw [Lib.cell_of_heap hbk]; rfl
  have c5 : w1.cell? ⟨w.heap.size, 5, none⟩ = some (.bool false) := by rw [Lib.cell_of_heap hbk]; rfl
  have f0 : w1.frozen? ⟨w.heap.size, 0, none⟩ = false := Lib.frozen_of_heap hbk 0
  have f1 : w1.frozen? ⟨w.heap.size, 1, none⟩ = false := Lib.frozen_of_heap hbk 1
  have f2 : w1.frozen? ⟨w.heap.size, 2, none⟩ = false := Lib.frozen_of_heap hbk 2
  have f3 : w1.frozen? ⟨w.heap.size, 3, none⟩ = false := Lib.frozen_of_heap hbk 3
  have f4 : w1.frozen? ⟨w.heap.size, 4, none⟩ = false := Lib.frozen_of_heap hbk 4
  have f5 : w1.frozen? ⟨w.heap.size, 5, none⟩ = false := Lib.frozen_of_heap hbk 5
  clear hbk hB1
  by_cases h1 : ts.length = 1
  · obtain ⟨x, rfl⟩ : ∃ x, ts = [x] := List.length_eq_one_iff.1 h1
    obtain ⟨g, o', rfl, -, hcap, hmax, hg, hc⟩ := hv.cells (by simp)
    have hcap1 : 1 ≤ cap := hcap
    unfold maxLen at hmax
    obtain ⟨d0, d1, d2, d3, d4, d5⟩ := hc 0 x rfl
    simp only [Nat.zero_mul, Nat.add_zero] at d0 d1 d2 d3 d4 d5
    obtain ⟨tx, htx⟩ : ∃ tx : ByteArray, tx = ⟨x.text.toArray⟩ := ⟨_, rfl⟩
    have htl : tx.data.toList = x.text := by rw [htx]
    rw [← htx] at d1
    have HTX := Lib.hid htx
    have hfull := Lx.one_full s.data.toList x HT.out.symm
    rw [size_list] at hfull
    have ho := HO.out
    rw [size_list] at ho
    by_cases hk : x.kind = 7
    · have t1 : ((x.kind : Int) == 7) = true := by rw [hk]; rfl
      have hn : o = none := by rw [ho]; simp [hk]
      subst hn
      clear hc hv htl hfull ho hk h1 htx
      go_wp2_with fail
      exact bodyPost_ret (v := .tuple #[tokAgg 0 zeroTok, .bool false]) (by simp [results, Tryd.results21, go_sem, tokAgg, zeroTok, c0, c1, c2, c3, c4, c5]) rfl ⟨rfl, (((((hB.setCell (p := ⟨w.heap.size, 0, none⟩) (Nat.le_refl _) _).setCell (p := ⟨w.heap.size, 1, none⟩) (Nat.le_refl _) _).setCell (p := ⟨w.heap.size, 2, none⟩) (Nat.le_refl _) _).setCell (p := ⟨w.heap.size, 3, none⟩) (Nat.le_refl _) _).setCell (p := ⟨w.heap.size, 4, none⟩) (Nat.le_refl _) _).setCell (p := ⟨w.heap.size, 5, none⟩) (Nat.le_refl _) _⟩
    · have t1 : ((x.kind : Int) == 7) = false := by rw [beq_eq_false_iff_ne]; omega
      by_cases hlen : x.text.length = s.size
      · obtain ⟨e1, -⟩ := hfull hlen
        have hst : tx = s := by
          apply ByteArray.ext
          apply Array.toList_inj.1
          rw [htl, e1]
        have t2 : (tx.toList == s.toList) = true := by rw [hst]; simp
        have t3 : (tx.toList != s.toList) = false := by simp [bne, t2]
        have hn : o = some x := by rw [ho]; simp [hk, hlen]
        subst hn
        have HST := Lib.hid hst
        clear hc hv htl hfull ho hk h1 htx e1 hlen hst
        go_wp2_with fail
        exact bodyPost_ret (v := .tuple #[tokAgg 0 x, .bool true]) (by simp [results, Tryd.results21, go_sem, tokAgg, HTX.out, c0, c1, c2, c3, c4, c5]) rfl ⟨rfl, (((((hB.setCell (p := ⟨w.heap.size, 0, none⟩) (Nat.le_refl _) _).setCell (p := ⟨w.heap.size, 1, none⟩) (Nat.le_refl _) _).setCell (p := ⟨w.heap.size, 2, none⟩) (Nat.le_refl _) _).setCell (p := ⟨w.heap.size, 3, none⟩) (Nat.le_refl _) _).setCell (p := ⟨w.heap.size, 4, none⟩) (Nat.le_refl _) _).setCell (p := ⟨w.heap.size, 5, none⟩) (Nat.le_refl _) _⟩
      · have hst : tx ≠ s := by
          intro e
          apply hlen
          rw [← htl, e, size_list]
        have t2 : (tx.toList == s.toList) = false := by rw [ba_beq]; simpa using hst
        have t3 : (tx.toList != s.toList) = true := by simp [bne, t2]
        have hn : o = none := by rw [ho]; simp [hlen]
        subst hn
        clear hc hv htl hfull ho hk h1 htx hlen hst
        go_wp2_with fail
        exact bodyPost_ret (v := .tuple #[tokAgg 0 zeroTok, .bool false]) (by simp [results, Tryd.results21, go_sem, tokAgg, zeroTok, c0, c1, c2, c3, c4, c5]) rfl ⟨rfl, (((((hB.setCell (p := ⟨w.heap.size, 0, none⟩) (Nat.le_refl _) _).setCell (p := ⟨w.heap.size, 1, none⟩) (Nat.le_refl _) _).setCell (p := ⟨w.heap.size, 2, none⟩) (Nat.le_refl _) _).setCell (p := ⟨w.heap.size, 3, none⟩) (Nat.le_refl _) _).setCell (p := ⟨w.heap.size, 4, none⟩) (Nat.le_refl _) _).setCell (p := ⟨w.heap.size, 5, none⟩) (Nat.le_refl _) _⟩
  · have t1 : ((ts.length : Int) != 1) = true := by simp [bne]; omega
    have t2 : ((ts.length : Int) == 1) = false := by rw [beq_eq_false_iff_ne]; omega
    have hn : o = none := by
      rw [HO.out]
      match ts, h1 with
      | [], _ => rfl
      | [x], h => simp at h
      | x :: y :: r, _ => rfl
    subst hn
    clear h1 hv
    go_wp2_with fail
    exact bodyPost_ret (v := .tuple #[tokAgg 0 zeroTok, .bool false]) (by simp [results, Tryd.results21, go_sem, tokAgg, zeroTok, c0, c1, c2, c3, c4, c5]) rfl ⟨rfl, (((((hB.setCell (p := ⟨w.heap.size, 0, none⟩) (Nat.le_refl _) _).setCell (p := ⟨w.heap.size, 1, none⟩) (Nat.le_refl _) _).setCell (p := ⟨w.heap.size, 2, none⟩) (Nat.le_refl _) _).setCell (p := ⟨w.heap.size, 3, none⟩) (Nat.le_refl _) _).setCell (p := ⟨w.heap.size, 4, none⟩) (Nat.le_refl _) _).setCell (p := ⟨w.heap.size, 5, none⟩) (Nat.le_refl _) _⟩
end Go.Proofs.YtfjbmenakcnadaaDoor

/- What is proved: names in brackets, one behind the other (plain). -/
namespace Go.Proofs.YtfjbmenakcnadaaDoor
namespace Mx
open Lx (Word)

def jc (ps : List ByteArray) : List UInt8 := Go.Lib.join (ps.map (·.data.toList)) [44]
theorem jc_nil : jc [] = [] := rfl
theorem jc_snoc (ps : List ByteArray) (p : ByteArray) : jc (ps ++ [p]) = (if ps = [] then [] else jc ps ++ [44]) ++ p.data.toList := by
  cases ps with
  | nil => show Go.Lib.join [p.data.toList] [44] = _; rw [Go.Lib.join_one]; rfl
  | cons x r =>
    rw [if_neg (by simp)]
    unfold jc
    rw [List.cons_append, List.map_cons, List.map_cons, List.map_append, Go.Lib.join_cons, Go.Lib.join_cons]
    simp [Go.Lib.joinTail, List.append_assoc]
theorem jc_take (ps : List ByteArray) (k : Nat) (p : ByteArray) (h : ps[k]? = some p) : jc (ps.take (k + 1)) = (if k = 0 then [] else jc (ps.take k) ++ [44]) ++ p.data.toList := by
  have hk := (List.getElem?_eq_some_iff.1 h).1
  rw [List.take_add_one, h]
  show jc (ps.take k ++ [p]) = _
  rw [jc_snoc]
  by_cases h0 : k = 0
  · subst h0; simp
  · rw [if_neg (by simp; refine ⟨h0, fun e => ?_⟩; rw [e] at hk; simp at hk), if_neg h0]
/-- How long names with commas between are. -/
theorem jc_len : ∀ ps : List ByteArray, (jc ps).length ≤ sw ps
  | [] => by simp [jc_nil]
  | x :: r => by
    have key : ∀ r : List ByteArray, (Go.Lib.joinTail [44] (r.map (·.data.toList))).length ≤ sw r := by
      intro r
      induction r with
      | nil => simp [Go.Lib.joinTail, sw]
      | cons y r ih =>
        simp only [Go.Lib.joinTail, List.map_cons, List.flatten_cons, List.length_append, List.length_cons, List.length_nil, size_list, sw] at ih ⊢
        omega
    unfold jc
    rw [List.map_cons, Go.Lib.join_cons, List.length_append, size_list, sw]
    have := key r
    omega
theorem sw_take : ∀ (ps : List ByteArray) (k : Nat), sw (ps.take k) ≤ sw ps
  | [], k => by simp [sw]
  | p :: r, 0 => by simp [sw]
  | p :: r, k + 1 => by
    have := sw_take r k
    simp only [List.take_succ_cons, sw]
    omega
theorem sw_mem : ∀ (ps : List ByteArray), ∀ p ∈ ps, p.size ≤ sw ps
  | q :: r, p, h => by
    rcases List.mem_cons.1 h with rfl | h
    · simp only [sw]; omega
    · have := sw_mem r p h; simp only [sw]; omega
/-- The whole text. -/
theorem names_text (ps : List ByteArray) (va : Bool) : Lx.joinB [44] (itemsT ps va) = jc (withDots ps va) ++ [41] := by
  rw [itemsDots, joinB_join]; rfl
theorem dots_text (ps : List ByteArray) : jc (withDots ps true) = (if ps = [] then [] else jc ps ++ [44]) ++ [46, 46, 46] := jc_snoc ps EL

/-- Was a name named twice so far? -/
def tw (ps : List ByteArray) : Nat → Bool
  | 0 => false
  | k + 1 => tw ps k || (match ps[k]? with | some p => has (ps.take k) p | none => false)
theorem tw_mono (ps : List ByteArray) (k : Nat) (h : tw ps k = true) : ∀ n, tw ps (k + n) = true
  | 0 => h
  | n + 1 => by rw [← Nat.add_assoc, tw, tw_mono ps k h n, Bool.true_or]
theorem tw_low (ps : List ByteArray) (n : Nat) (h : tw ps n = false) (i : Nat) (p : ByteArray) (hi : i < n) (hp : ps[i]? = some p) : has (ps.take i) p = false := by
  cases hh : has (ps.take i) p with
  | false => rfl
  | true =>
    have h1 : tw ps (i + 1) = true := by simp [tw, hp, hh]
    have h2 := tw_mono ps (i + 1) h1 (n - (i + 1))
    rw [show i + 1 + (n - (i + 1)) = n by omega, h] at h2
    cases h2
theorem okAll_tw (ps : List ByteArray) : ∀ (r acc : List ByteArray), acc ++ r = ps → (∀ p ∈ r, p ≠ VA) → tw ps acc.length = false → okAll acc r = !tw ps ps.length
  | [], acc, h, _, h0 => by
    rw [List.append_nil] at h
    subst h
    rw [h0]; rfl
  | p :: r, acc, h, hv, h0 => by
    have hp : ps[acc.length]? = some p := by rw [← h]; simp
    have htake : ps.take acc.length = acc := by rw [← h]; simp
    have h1 : tw ps (acc.length + 1) = has acc p := by rw [tw, h0, hp, htake, Bool.false_or]
    have hpv := hv p (by simp)
    cases hh : has acc p with
    | true =>
      rw [hh] at h1
      have h2 := tw_mono ps _ h1 (ps.length - (acc.length + 1))
      have hle : acc.length + 1 ≤ ps.length := by rw [← h]; simp
      rw [show acc.length + 1 + (ps.length - (acc.length + 1)) = ps.length by omega] at h2
      rw [h2, okAll, hh]
      simp
    | false =>
      rw [hh] at h1
      have := okAll_tw ps r (acc ++ [p]) (by rw [← h]; simp) (fun q hq => hv q (List.mem_cons_of_mem _ hq)) (by rw [List.length_append]; exact h1)
      rw [okAll, hh, this]
      simp [hpv]
theorem names_ok (ps : List ByteArray) (hv : ∀ p ∈ ps, p ≠ VA) : okAll [] ps = !tw ps ps.length := okAll_tw ps ps [] rfl hv rfl

/-- What One tells of a name is a word. -/
theorem one_word {t : List UInt8} {x : Lx.T} (h : oneOf t = some x) (hk : x.kind = 1) : Word t := by
  unfold oneOf at h
  split at h
  · rename_i y hy
    split at h
    · rename_i hc
      injection h with h
      subst h
      have h1 := (Lx.one_full t y hy hc.2).1
      have h2 : Lx.al y ∈ Lx.tb false (Lx.bytes (Sp.left 0 t)) := by rw [← Lx.tk_al, hy]; simp
      have h3 := Lx.kind_word false _ _ h2 hk
      rw [show (Lx.al y).2.1 = y.text from rfl, h1] at h3
      exact h3
    · cases h
  · cases h
theorem names_pidx (ps : List ByteArray) (va : Bool) (i : Nat) (p : ByteArray) (hp : ps[i]? = some p) (h : tw ps ps.length = false) (hv : p ≠ VA) : rpidx ps va p = i := by
  have hi := (List.getElem?_eq_some_iff.1 hp).1
  rw [rpidx, if_neg (by simp [hv])]
  exact pidx_hit hp (tw_low ps _ h i p hi hp)
theorem names_va (ps : List ByteArray) (va : Bool) (hv : ∀ p ∈ ps, p ≠ VA) : rpidx ps va VA = if va then (ps.length : Int) else -1 := by
  have hno : has ps VA = false := by
    cases h : has ps VA with
    | false => rfl
    | true => exact absurd rfl (hv VA ((has_iff _ _).1 h))
  cases va with
  | true => simp [rpidx]
  | false => simp [rpidx, pidx_miss hno]
end Mx
end Go.Proofs.YtfjbmenakcnadaaDoor
