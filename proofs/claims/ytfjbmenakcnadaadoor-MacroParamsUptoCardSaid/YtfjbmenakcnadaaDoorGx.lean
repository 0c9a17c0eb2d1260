/- What is proved: MacroParams, its end: what is told of names in brackets. (and what stands with it) -/
import Derived.Test.YtfjbmenakcnadaaDoorGw
import Derived.Test.YtfjbmenakcnadaaDoorGl
import Derived.Deep.RegionHeld3

/- What is proved: MacroParams, its end: what is told of names in brackets. -/
namespace Go.Proofs.YtfjbmenakcnadaaDoor
open Go.RowKit Go.Shelf Go.WideMaps

theorem MA.all {W : World} {nm : ByteArray} {fn va : Bool} {pv bv : Value} {m : Mx.M} (h : MA W (.agg #[.string nm, .bool fn, pv, .bool va, bv]) m) : fn = m.fn ∧ va = m.va ∧ (∃ a c, pv = .slice a m.ps.length c) ∧ ∃ a n c, bv = .slice a n c := by
  obtain ⟨pv', bv', e, h1, h2⟩ := h
  simp only [Value.agg.injEq, Array.mk.injEq, List.cons.injEq, Value.string.injEq, Value.bool.injEq, and_true] at e
  obtain ⟨-, rfl, rfl, rfl, rfl⟩ := e
  obtain ⟨a, c, rfl, -⟩ := h2
  obtain ⟨a', c', rfl, -⟩ := h1.1
  exact ⟨rfl, rfl, ⟨_, _, rfl⟩, _, _, _, rfl⟩
noncomputable def parBody : Code := Tryd.f8.body.getD .skip

set_option maxRecDepth 100000 in
set_option maxHeartbeats 8000000 in
theorem lpar_end (w W : World) (hG : Glob w) (pa : Option Addr) (n pc : Nat) (va q : Bool) (ps : List ByteArray) (y : ByteArray) (hp : Sts W (.slice pa n pc) ps) (hn : n = ps.length) (hn30 : n ≤ 30)
    (hB : Below w.heap.size w W) (hw : ∀ p ∈ ps, Lx.Word p.data.toList) (hv : ∀ p ∈ ps, p ≠ Mx.VA) (hy : y.data.toList = 70 :: 40 :: Mx.jc (withDots ps va)) (hys : y.size ≤ 5000000) (hq : q = Mx.tw ps ps.length)
    (c2 c3 c4 c8 c9 c10 c11 c12 c13 c14 c15 c16 c17 c18 c19 c20 c21 c22 c23 c24 c25 c26 c27 c28 c29 c30 c31 c32 c33 c34 c35 c36 c37 c38 c39 c40 c41 c42 c43 c44 c45 c46 c47 c48 c49 c50 c51 c52 c53 c54 c55 c56 c57 c58 c59 c60 c61 c62 c63 c64 c65 c66 c67 c68 c69 c70 c71 c72 c73 c74 c75 c76 c77 c78 c79 c80 c81 c82 c83 c84 c85 c86 c87 c88 c89 c90 c91 c92 c93 c94 c95 c96 c97 c98 c99 c100 c101 c102 c103 c104 c105 c106 c107 c108 c109 c110 c111 c112 c113 c114 c115 c116 c117 c118 c119 c120 c121 c122 c123 c124 c125 c126 c127 c128 c129 c130 c131 c132 c133 c134 c135 c136 c137 c138 c139 c140 c141 c142 c143 c144 c145 c146 c147 c148 c149 c150 c151 c152 c153 : Value) :
    Code.wp Tryd.prog (secs 7 parBody) (bodyPost Tryd.prog Tryd.f8 (TruePost w)) ⟨#[.slice pa n pc, .bool va, c2, c3, c4, .bool true, .string y, .bool q, c8, c9, c10, c11, c12, c13, c14, c15, c16, c17, c18, c19, c20, c21, c22, c23, c24, c25, c26, c27, c28, c29, c30, c31, c32, c33, c34, c35, c36, c37, c38, c39, c40, c41, c42, c43, c44, c45, c46, c47, c48, c49, c50, c51, c52, c53, c54, c55, c56, c57, c58, c59, c60, c61, c62, c63, c64, c65, c66, c67, c68, c69, c70, c71, c72, c73, c74, c75, c76, c77, c78, c79, c80, c81, c82, c83, c84, c85, c86, c87, c88, c89, c90, c91, c92, c93, c94, c95, c96, c97, c98, c99, c100, c101, c102, c103, c104, c105, c106, c107, c108, c109, c110, c111, c112, c113, c114, c115, c116, c117, c118, c119, c120, c121, c122, c123, c124, c125, c126, c127, c128, c129, c130, c131, c132, c133, c134, c135, c136, c137, c138, c139, c140, c141, c142, c143, c144, c145, c146, c147, c148, c149, c150, c151, c152, c153], []⟩ W := by
  have HG := Lib.hid hG
  have HP := Lib.hid hp
  have Hn := Lib.hid hn
  have HB := Lib.hid hB
  have HV := Lib.hid hv
  have HQ := Lib.hid hq
  obtain ⟨z, hz⟩ : ∃ z : ByteArray, z = ⟨(y.data.toList ++ [41]).toArray⟩ := ⟨_, rfl⟩
  have hzd : z.data.toList = y.data.toList ++ [41] := by rw [hz]
  have hzs : z.size = y.size + 1 := by
    have h2 := congrArg List.length hzd
    simpa only [List.length_append, List.length_cons, List.length_nil, size_list, Nat.zero_add] using h2
  have had : ∀ W, (Op.stringOp .add y ⟨#[41]⟩).run Tryd.prog W = .ok (.string z) W := fun W => add_ba _ _ _ (by show y.size + 1 ≤ _; omega) hzd W
  have hdf := Mx.df_names ps va hw z (by rw [hzd, hy, Mx.names_text]; rfl)
  rw [Mx.names_ok ps hv, ← hq] at hdf
  have da := fun w' h => ldef_ma z (by omega) w' h
  have fa := fit_df z (by omega)
  obtain ⟨ra, hra⟩ : ∃ r, r = Mx.df z := ⟨_, rfl⟩
  rw [← hra] at hdf da fa
  have HDF := Lib.hid hdf
  have FA := Lib.hid fa
  clear hG hp hn hB hw hv hy hz hzd hzs hdf hra fa hq
  refine wp_sec 7 parBody rfl ?_
  conv => arg 2; whnf
  go_wp2_with fail
  refine (da _ (HG.out.later HB.out)).mono ?_
  rintro e w1 ⟨n1, f1, p1, q1, r1, v1, b1, c1, d1, rfl, m1, hB10⟩
  clear da had
  have hBw := Below.then HB.out hB10
  have hP1 := HP.out.below hB10
  cases q
  · have hra : ra = (⟨⟨#[70]⟩, true, ps, va, []⟩, 0) := by rw [HDF.out]; rfl
    obtain ⟨rfl, rfl, ⟨a', c', e'⟩, -⟩ := m1.all
    simp only [Value.slice.injEq] at e'
    obtain ⟨rfl, rfl, rfl⟩ := e'
    have hr2 : ra.2 = 0 := by rw [hra]
    rw [hra] at m1 hr2 ⊢
    dsimp only at m1 ⊢
    rw [← Hn.out] at m1 ⊢
    have hA1 : Below w1.heap.size w1 (w1.alloc (.cells #[.string n1, .bool true, .slice p1 n r1, .bool va, .slice b1 c1 d1] 26)) := (Below.refl _ _).alloc (Nat.le_refl _) _
    have HB1 := Lib.hid (Below.then hBw hA1)
    have HP1 := Lib.hid (hP1.below hA1)
    have HM1 := Lib.hid (m1.below hA1)
    have k1 := heap_alloc_new w1 (.cells #[.string n1, .bool true, .slice p1 n r1, .bool va, .slice b1 c1 d1] 26)
    have K1 := Lib.hid k1
    clear m1 hBw hP1 hA1 hr2 hB10 hra
    go_wp2_with fail
    generalize w1.alloc (.cells #[.string n1, .bool true, .slice p1 n r1, .bool va, .slice b1 c1 d1] 26) = W1 at HB1 HP1 HM1 k1 K1 ⊢
    obtain ⟨x10, x11, x12, x13, x14⟩ := box_cells k1
    clear k1
    refine wp_sec 8 parBody rfl ?_
    conv => arg 2; whnf
    go_wp2_with fail
    refine wp_sec 9 parBody rfl ?_
    conv => arg 2; whnf
    go_wp2_with fail
    refine wp_sec 10 parBody rfl ?_
    conv => arg 2; whnf
    have HFA := Lib.hid (show Fit ⟨⟨#[70]⟩, true, ps, va, []⟩ by have := FA.out; rwa [HDF.out] at this)
    clear x10 x11 x12 x13 x14
    go_wp2_with fail
    go_loopw [14] (fun i wx => ∃ k : Nat, i = .int .i64 k ∧ k ≤ n ∧ Below W1.heap.size W1 wx) (fun i _ => n - (intOf i).toNat)
    case atStart => exact ⟨0, rfl, Nat.zero_le _, Below.refl _ _⟩
    case round =>
      obtain ⟨k, rfl, hk, hBx⟩ := hrel
      have HBX := Lib.hid hBx
      have hM := HM1.out.below hBx
      have k1 := (hBx.block _ (lt_of_block K1.out)).trans K1.out
      have hPx := HP1.out.below hBx
      have HM := Lib.hid hM
      have K2 := Lib.hid k1
      clear hBx hM
      by_cases hlt : k < n
      · obtain ⟨p, hpk⟩ : ∃ p, ps[k]? = some p := ⟨_, List.getElem?_eq_getElem (by rw [← Hn.out]; exact hlt)⟩
        obtain ⟨g, o, cap', hv', -, -, hgl, hcs⟩ := hPx.cells (by rw [← Hn.out]; omega)
        have hv1 : pa = some ⟨g, o, none⟩ := by injection hv'
        subst hv1
        have d0 := hcs k p hpk
        have y1 : (0 : Int) ≤ k := by omega
        have y2 : (k : Int) < n := by omega
        have HNI := Lib.hid (Mx.names_pidx ps va k p hpk HQ.out.symm (HV.out p (List.mem_of_getElem? hpk)))
        obtain ⟨x10, x11, x12, x13, x14⟩ := box_cells k1
        clear hcs hpk k1 hPx hv'
        have hW : Below wr.heap.size wr wr := Below.refl _ _
        go_wp2_with fail
        go_region_held3 (fun w' => w'.cell? ⟨w1.heap.size, 0, none⟩ = some (.string n1) ∧ w'.cell? ⟨w1.heap.size, 1, none⟩ = some (.bool true) ∧ w'.cell? ⟨w1.heap.size, 2, none⟩ = some (.slice p1 n r1) ∧ w'.cell? ⟨w1.heap.size, 3, none⟩ = some (.bool va) ∧ w'.cell? ⟨w1.heap.size, 4, none⟩ = some (.slice b1 c1 d1) ∧ w'.cell? ⟨g, o + k, none⟩ = some (.string p) ∧ Below wr.heap.size wr w')
          (first
            | exact ⟨x10, x11, x12, x13, x14, d0, hW.drew⟩
            | (refine ⟨?_, ?_, ?_, ?_, ?_, ?_, ?_⟩ <;> go_keep)
            | (go_split_ands
               refine ⟨?_, ?_, ?_, ?_, ?_, ?_, ?_⟩
               · exact below_cof hB2 (by assumption)
               · exact below_cof hB2 (by assumption)
               · exact below_cof hB2 (by assumption)
               · exact below_cof hB2 (by assumption)
               · exact below_cof hB2 (by assumption)
               · exact below_cof hB2 (by assumption)
               · exact Below.trans (by assumption) (hB2.mono (Below.size (by assumption)))))
          (first | (go_at_call 17; go_split_ands; refine (fparam_any p HFA.out (HM.out.below (by assumption))).mono ?_; rw [HNI.out]; rintro e w2 ⟨rfl, hB2⟩))
        go_split_ands
        have hB3 : Below wr.heap.size wr w2 := by assumption
        have HBX2 := Lib.hid (Below.then HBX.out hB3)
        clear hB3
        go_wp2_with fail
        go_roundw
        case rel => exact ⟨k + 1, by go_num, by omega, HBX2.out⟩
        case measure => simp [intOf]; omega
      · have y2 : ¬ (k : Int) < n := by omega
        have hnv := Mx.names_va ps va HV.out
        rw [← Hn.out] at hnv
        clear k1 hPx hlt
        go_wp2_with fail
        cases va
        · have HNV := Lib.hid (show Mx.rpidx ps false Mx.VA = -1 from hnv)
          clear hnv
          obtain ⟨x10, x11, x12, x13, x14⟩ := box_cells K2.out
          refine wp_sec 11 parBody rfl ?_
          conv => arg 2; whnf
          go_wp2_with fail
          refine (fparam_any Mx.VA HFA.out HM.out).mono ?_
          dsimp only
          rw [HNV.out]
          rintro e w3 ⟨rfl, hB3⟩
          have hBf := Below.then HB1.out (Below.then HBX.out hB3)
          clear x10 x11 x12 x13 x14 hB3
          go_wp2_with fail
          refine wp_sec 12 parBody rfl ?_
          conv => arg 2; whnf
          go_wp2_with fail
          conv => arg 2; whnf
          go_wp2_with fail
          go_ret
          exact ⟨rfl, hBf⟩
        · have HNV := Lib.hid (show Mx.rpidx ps true Mx.VA = n from hnv)
          clear hnv
          obtain ⟨x10, x11, x12, x13, x14⟩ := box_cells K2.out
          refine wp_sec 11 parBody rfl ?_
          conv => arg 2; whnf
          go_wp2_with fail
          refine (fparam_any Mx.VA HFA.out HM.out).mono ?_
          dsimp only
          rw [HNV.out]
          rintro e w3 ⟨rfl, hB3⟩
          have hBf := Below.then HB1.out (Below.then HBX.out hB3)
          clear x10 x11 x12 x13 x14 hB3
          go_wp2_with fail
          refine wp_sec 12 parBody rfl ?_
          conv => arg 2; whnf
          go_wp2_with fail
          conv => arg 2; whnf
          go_wp2_with fail
          go_ret
          exact ⟨rfl, hBf⟩
  · have hra : ra = (.zero, 61) := by rw [HDF.out]; rfl
    have hr2 : ra.2 = 61 := by rw [hra]
    rw [hr2]
    have hA1 : Below w1.heap.size w1 (w1.alloc (.cells #[.string n1, .bool f1, .slice p1 q1 r1, .bool v1, .slice b1 c1 d1] 26)) := (Below.refl _ _).alloc (Nat.le_refl _) _
    have HB1 := Lib.hid (Below.then hBw hA1)
    clear m1 hBw hP1 hA1 hr2 hB10 hra
    go_wp2_with fail
    refine wp_sec 8 parBody rfl ?_
    conv => arg 2; whnf
    go_wp2_with fail
    go_ret
    exact ⟨rfl, HB1.out⟩

set_option maxRecDepth 100000 in
set_option maxHeartbeats 8000000 in
theorem lpar_mid (w W : World) (hG : Glob w) (pa : Option Addr) (n pc : Nat) (va q : Bool) (ps : List ByteArray) (x : ByteArray) (hp : Sts W (.slice pa n pc) ps) (hn : n = ps.length) (hn30 : n ≤ 30)
    (hB : Below w.heap.size w W) (hw : ∀ p ∈ ps, Lx.Word p.data.toList) (hv : ∀ p ∈ ps, p ≠ Mx.VA) (hx : x.data.toList = 70 :: 40 :: Mx.jc ps) (hxs : x.size ≤ 4000000) (hq : q = Mx.tw ps ps.length)
    (c2 c3 c4 c8 c9 c10 c11 c12 c13 c14 c15 c16 c17 c18 c19 c20 c21 c22 c23 c24 c25 c26 c27 c28 c29 c30 c31 c32 c33 c34 c35 c36 c37 c38 c39 c40 c41 c42 c43 c44 c45 c46 c47 c48 c49 c50 c51 c52 c53 c54 c55 c56 c57 c58 c59 c60 c61 c62 c63 c64 c65 c66 c67 c68 c69 c70 c71 c72 c73 c74 c75 c76 c77 c78 c79 c80 c81 c82 c83 c84 c85 c86 c87 c88 c89 c90 c91 c92 c93 c94 c95 c96 c97 c98 c99 c100 c101 c102 c103 c104 c105 c106 c107 c108 c109 c110 c111 c112 c113 c114 c115 c116 c117 c118 c119 c120 c121 c122 c123 c124 c125 c126 c127 c128 c129 c130 c131 c132 c133 c134 c135 c136 c137 c138 c139 c140 c141 c142 c143 c144 c145 c146 c147 c148 c149 c150 c151 c152 c153 : Value) :
    Code.wp Tryd.prog (secs 6 parBody) (bodyPost Tryd.prog Tryd.f8 (TruePost w)) ⟨#[.slice pa n pc, .bool va, c2, c3, c4, .bool true, .string x, .bool q, c8, c9, c10, c11, c12, c13, c14, c15, c16, c17, c18, c19, c20, c21, c22, c23, c24, c25, c26, c27, c28, c29, c30, c31, c32, c33, c34, c35, c36, c37, c38, c39, c40, c41, c42, c43, c44, c45, c46, c47, c48, c49, c50, c51, c52, c53, c54, c55, c56, c57, c58, c59, c60, c61, c62, c63, c64, c65, c66, c67, c68, c69, c70, c71, c72, c73, c74, c75, c76, c77, c78, c79, c80, c81, c82, c83, c84, c85, c86, c87, c88, c89, c90, c91, c92, c93, c94, c95, c96, c97, c98, c99, c100, c101, c102, c103, c104, c105, c106, c107, c108, c109, c110, c111, c112, c113, c114, c115, c116, c117, c118, c119, c120, c121, c122, c123, c124, c125, c126, c127, c128, c129, c130, c131, c132, c133, c134, c135, c136, c137, c138, c139, c140, c141, c142, c143, c144, c145, c146, c147, c148, c149, c150, c151, c152, c153], []⟩ W := by
  have HG := Lib.hid hG
  have HP := Lib.hid hp
  have Hn := Lib.hid hn
  have HB := Lib.hid hB
  have HW := Lib.hid hw
  have HV := Lib.hid hv
  have HQ := Lib.hid hq
  have HX := Lib.hid hx
  clear hG hp hn hB hw hv hx hq
  refine wp_sec 6 parBody rfl ?_
  conv => arg 2; whnf
  cases va
  · go_wp2_with fail
    exact lpar_end w W HG.out pa n pc false q ps x HP.out Hn.out hn30 HB.out HW.out HV.out HX.out (by omega) HQ.out _ _ _ _ _ _ _ _ _ _ _ _ _ _ _ _ _ _ _ _ _ _ _ _ _ _ _ _ _ _ _ _ _ _ _ _ _ _ _ _ _ _ _ _ _ _ _ _ _ _ _ _ _ _ _ _ _ _ _ _ _ _ _ _ _ _ _ _ _ _ _ _ _ _ _ _ _ _ _ _ _ _ _ _ _ _ _ _ _ _ _ _ _ _ _ _ _ _ _ _ _ _ _ _ _ _ _ _ _ _ _ _ _ _ _ _ _ _ _ _ _ _ _ _ _ _ _ _ _ _ _ _ _ _ _ _ _ _ _ _ _ _ _ _ _ _ _ _ _
  · by_cases h0 : n = 0
    · have hp0 : ps = [] := List.length_eq_zero_iff.1 (by rw [← Hn.out, h0])
      have y1 : ¬ (0 : Int) < n := by omega
      obtain ⟨z, hz⟩ : ∃ z : ByteArray, z = ⟨(x.data.toList ++ [46, 46, 46]).toArray⟩ := ⟨_, rfl⟩
      have hzd : z.data.toList = x.data.toList ++ [46, 46, 46] := by rw [hz]
      have h2 := congrArg List.length hzd
      simp only [List.length_append, List.length_cons, List.length_nil, size_list] at h2
      have had : ∀ W, (Op.stringOp .add x ⟨#[46, 46, 46]⟩).run Tryd.prog W = .ok (.string z) W := fun W => add_ba _ _ _ (by show x.size + 3 ≤ _; omega) hzd W
      have HZ := Lib.hid (show z.data.toList = 70 :: 40 :: Mx.jc (withDots ps true) by rw [hzd, HX.out, Mx.dots_text, if_pos hp0, hp0]; simp [Mx.jc_nil])
      clear hz hzd hp0 h0
      go_wp2_with fail
      exact lpar_end w W HG.out pa n pc true q ps z HP.out Hn.out hn30 HB.out HW.out HV.out HZ.out (by omega) HQ.out _ _ _ _ _ _ _ _ _ _ _ _ _ _ _ _ _ _ _ _ _ _ _ _ _ _ _ _ _ _ _ _ _ _ _ _ _ _ _ _ _ _ _ _ _ _ _ _ _ _ _ _ _ _ _ _ _ _ _ _ _ _ _ _ _ _ _ _ _ _ _ _ _ _ _ _ _ _ _ _ _ _ _ _ _ _ _ _ _ _ _ _ _ _ _ _ _ _ _ _ _ _ _ _ _ _ _ _ _ _ _ _ _ _ _ _ _ _ _ _ _ _ _ _ _ _ _ _ _ _ _ _ _ _ _ _ _ _ _ _ _ _ _ _ _ _ _ _ _
    · have hp0 : ps ≠ [] := fun e => h0 (by rw [Hn.out, e]; rfl)
      have y1 : (0 : Int) < n := by omega
      obtain ⟨y, hy⟩ : ∃ y : ByteArray, y = ⟨(x.data.toList ++ [44]).toArray⟩ := ⟨_, rfl⟩
      have hyd : y.data.toList = x.data.toList ++ [44] := by rw [hy]
      obtain ⟨z, hz⟩ : ∃ z : ByteArray, z = ⟨(y.data.toList ++ [46, 46, 46]).toArray⟩ := ⟨_, rfl⟩
      have hzd : z.data.toList = y.data.toList ++ [46, 46, 46] := by rw [hz]
      have h2 := congrArg List.length hzd
      have h3 := congrArg List.length hyd
      simp only [List.length_append, List.length_cons, List.length_nil, size_list] at h2 h3
      have had1 : ∀ W, (Op.stringOp .add x ⟨#[44]⟩).run Tryd.prog W = .ok (.string y) W := fun W => add_ba _ _ _ (by show x.size + 1 ≤ _; omega) hyd W
      have had2 : ∀ W, (Op.stringOp .add y ⟨#[46, 46, 46]⟩).run Tryd.prog W = .ok (.string z) W := fun W => add_ba _ _ _ (by show y.size + 3 ≤ _; omega) hzd W
      have HZ := Lib.hid (show z.data.toList = 70 :: 40 :: Mx.jc (withDots ps true) by rw [hzd, hyd, HX.out, Mx.dots_text, if_neg hp0]; simp)
      clear hz hzd hy hyd hp0 h0
      go_wp2_with fail
      exact lpar_end w W HG.out pa n pc true q ps z HP.out Hn.out hn30 HB.out HW.out HV.out HZ.out (by omega) HQ.out _ _ _ _ _ _ _ _ _ _ _ _ _ _ _ _ _ _ _ _ _ _ _ _ _ _ _ _ _ _ _ _ _ _ _ _ _ _ _ _ _ _ _ _ _ _ _ _ _ _ _ _ _ _ _ _ _ _ _ _ _ _ _ _ _ _ _ _ _ _ _ _ _ _ _ _ _ _ _ _ _ _ _ _ _ _ _ _ _ _ _ _ _ _ _ _ _ _ _ _ _ _ _ _ _ _ _ _ _ _ _ _ _ _ _ _ _ _ _ _ _ _ _ _ _ _ _ _ _ _ _ _ _ _ _ _ _ _ _ _ _ _ _ _ _ _ _ _ _

end Go.Proofs.YtfjbmenakcnadaaDoor

/- What is proved: MacroParams answers true, in whatever memory, of names that take up two million bytes at most. -/
namespace Go.Proofs.YtfjbmenakcnadaaDoor
open Go.RowKit Go.Shelf Go.WideMaps

theorem has_take (ps : List ByteArray) (j : Nat) (x p : ByteArray) (h : ps[j]? = some x) : Mx.has (ps.take (j + 1)) p = (Mx.has (ps.take j) p || decide (x = p)) := by
  rw [List.take_add_one, h]
  simp [Mx.has]
def ParRel (w : World) (ps : List ByteArray) (n : Nat) (s t i : Value) (wx : World) : Prop :=
  ∃ (k : Nat) (x : ByteArray), i = .int .i64 k ∧ k ≤ n ∧ s = .string x ∧ x.data.toList = 70 :: 40 :: Mx.jc (ps.take k) ∧ t = .bool (Mx.tw ps k) ∧ Below w.heap.size w wx ∧ (∀ j p, j < k → ps[j]? = some p → Lx.Word p.data.toList ∧ p ≠ Mx.VA)

set_option maxRecDepth 100000 in
set_option maxHeartbeats 8000000 in
theorem lparams_any (v0 : Value) (va : Bool) (ps : List ByteArray) (w : World) (hp : Sts w v0 ps) (hsw : Mx.sw ps ≤ 2100000) (hG : Glob w) : Calls Tryd.prog 8 #[v0, .bool va] w (TruePost w) := by
  obtain ⟨pa, pc, rfl, h1, h2, -⟩ := id hp
  obtain ⟨n, hn⟩ : ∃ n, n = ps.length := ⟨_, rfl⟩
  rw [← hn] at hp h1 ⊢
  have HG := Lib.hid hG
  have HP := Lib.hid hp
  have Hn := Lib.hid hn
  have HSW := Lib.hid hsw
  clear hG hp hn hsw h1 h2
  by_cases h30 : n ≤ 30
  · have y1 : ¬ (30 : Int) < n := by omega
    go_enter Tryd.func8, Tryd.ntmps8
    show Code.wp Tryd.prog (secs 0 parBody) _ _ _
    refine wp_sec 0 parBody rfl ?_
    conv => arg 2; whnf
    go_wp2_with fail
    refine wp_sec 1 parBody rfl ?_
    conv => arg 2; whnf
    go_wp2_with fail
    refine (awake_any _ HG.out).mono ?_
    rintro e w0 ⟨rfl, hB0⟩
    have HB0 := Lib.hid hB0
    clear hB0
    go_wp2_with fail
    refine wp_sec 2 parBody rfl ?_
    conv => arg 2; whnf
    go_wp2_with fail
    refine wp_sec 3 parBody rfl ?_
    conv => arg 2; whnf
    go_wp2_with fail
    refine wp_sec 4 parBody rfl ?_
    conv => arg 2; whnf
    go_wp2_with fail
    refine wp_sec 5 parBody rfl ?_
    conv => arg 2; whnf
    go_wp2_with fail
    go_loopw [6, 7, 8] (fun s t i wx => ParRel w ps n s t i wx) (fun _ _ i _ => n - (intOf i).toNat)
    case atStart => exact ⟨0, ⟨#[70, 40]⟩, rfl, Nat.zero_le _, rfl, rfl, rfl, HB0.out, fun j p hj => absurd hj (Nat.not_lt_zero _)⟩
    case round =>
      obtain ⟨k, x, rfl, hk, rfl, hx, rfl, hB, hno⟩ := hrel
      have HX := Lib.hid hx
      have HB := Lib.hid hB
      have HNO := Lib.hid hno
      have HPW := Lib.hid (HP.out.below hB)
      have hxs : x.size ≤ 2100002 := by
        have h1 := congrArg List.length hx
        have h2 := Mx.jc_len (ps.take k)
        have h3 := Mx.sw_take ps k
        have h4 := HSW.out
        simp only [List.length_cons, size_list] at h1
        omega
      clear hx hB hno
      by_cases hlt : k < n
      · obtain ⟨p, hpk⟩ : ∃ p, ps[k]? = some p := ⟨_, List.getElem?_eq_getElem (by rw [← Hn.out]; exact hlt)⟩
        obtain ⟨g, o, cap', hv', -, -, hgl, hcs⟩ := HPW.out.cells (by rw [← Hn.out]; omega)
        have hv1 : pa = some ⟨g, o, none⟩ := by injection hv'
        subst hv1
        have d0 := hcs k p hpk
        have y2 : (0 : Int) ≤ k := by omega
        have y3 : (k : Int) < n := by omega
        have hps : p.size ≤ 2100000 := by have := Mx.sw_mem ps p (List.mem_of_getElem? hpk); have := HSW.out; omega
        have HCS := Lib.hid hcs
        have HPK := Lib.hid hpk
        have HPS := Lib.hid hps
        clear hcs hpk hv' hps
        go_wp2_with fail
        have key := one_any p (by have := HPS.out; omega) wr (HG.out.later HB.out)
        obtain ⟨oo, hoo⟩ : ∃ oo, oo = oneOf p.data.toList := ⟨_, rfl⟩
        rw [← hoo] at key
        have HOO := Lib.hid hoo
        clear hoo
        unfold OnePost at key
        cases oo with
        | none =>
          simp only [Option.getD_none, Option.isSome_none, tokAgg, zeroTok] at key
          refine key.mono ?_
          rintro e w1 ⟨rfl, hB1⟩
          have hBf := Below.then HB.out hB1
          clear key
          go_wp2_with fail
          go_ret
          exact ⟨rfl, hBf.alloc hBf.size _⟩
        | some t =>
          simp only [Option.getD_some, Option.isSome_some, tokAgg] at key
          obtain ⟨kd, hkd⟩ : ∃ kd : Int, kd = t.kind := ⟨_, rfl⟩
          rw [← hkd] at key
          have HKD := Lib.hid hkd
          clear hkd
          by_cases hk1 : kd = 1
          · obtain rfl := hk1
            have HKEY := Lib.hid key
            clear key
            refine HKEY.out.mono ?_
            rintro e w1 ⟨rfl, hB1⟩
            have hBf := Below.then HB.out hB1
            have hBa := hBf.alloc hBf.size (.cells #[.int .i64 1, .string ⟨t.text.toArray⟩, .int .i64 0, .int .i64 t.fr, .int .i64 t.to, .bool t.bl] 39)
            have hB2 : Below wr.heap.size wr (w1.alloc (.cells #[.int .i64 1, .string ⟨t.text.toArray⟩, .int .i64 0, .int .i64 t.fr, .int .i64 t.to, .bool t.bl] 39)) := hB1.alloc hB1.size _
            have hd1 : (w1.alloc (.cells #[.int .i64 1, .string ⟨t.text.toArray⟩, .int .i64 0, .int .i64 t.fr, .int .i64 t.to, .bool t.bl] 39)).cell? ⟨g, o + k, none⟩ = some (.string p) := (hB2.cell (p := ⟨g, o + k, none⟩) hgl).trans d0
            have k1 := heap_alloc_new w1 (.cells #[.int .i64 1, .string ⟨t.text.toArray⟩, .int .i64 0, .int .i64 t.fr, .int .i64 t.to, .bool t.bl] 39)
            have e1 := (Lib.cell_of_heap k1 0).trans rfl
            have HB2 := Lib.hid hB2
            have HBA := Lib.hid hBa
            have hgl2 : g < (w1.alloc (.cells #[.int .i64 1, .string ⟨t.text.toArray⟩, .int .i64 0, .int .i64 t.fr, .int .i64 t.to, .bool t.bl] 39)).heap.size := Nat.lt_of_lt_of_le hgl hB2.size
            have hlt1 := lt_of_block k1
            clear hBf hB1 k1 d0 hB2 hBa
            by_cases hpv : p = Mx.VA
            · have t1 : (p.toList == [95, 95, 86, 65, 95, 65, 82, 71, 83, 95, 95]) = true := lit_yes hpv
              clear hpv
              go_wp2_with fail
              go_ret
              exact ⟨rfl, HBA.out⟩
            · have t1 : (p.toList == [95, 95, 86, 65, 95, 65, 82, 71, 83, 95, 95]) = false := lit_no hpv
              have HPV := Lib.hid hpv
              clear hpv
              go_wp2_with fail
              generalize w1.alloc (.cells #[.int .i64 1, .string ⟨t.text.toArray⟩, .int .i64 0, .int .i64 t.fr, .int .i64 t.to, .bool t.bl] 39) = W1 at hd1 e1 HB2 HBA hgl2 hlt1 ⊢
              obtain ⟨tb, htb⟩ : ∃ tb, tb = Mx.tw ps k := ⟨_, rfl⟩
              rw [← htb]
              have HTB := Lib.hid htb
              have HD1 := Lib.hid hd1
              clear htb hd1 e1 t1
              go_loopw [7, 11] (fun t i wx => ∃ j : Nat, i = .int .i64 j ∧ j ≤ k ∧ t = .bool (tb || Mx.has (ps.take j) p) ∧ Below W1.heap.size W1 wx) (fun _ i _ => k - (intOf i).toNat)
              case atStart => exact ⟨0, rfl, Nat.zero_le _, by simp [Mx.has], Below.refl _ _⟩
              case round =>
                obtain ⟨j, rfl, hj, rfl, hBj⟩ := hrel
                have HBJ := Lib.hid hBj
                clear hBj
                obtain ⟨T, hT⟩ : ∃ T, T = (tb || Mx.has (ps.take j) p) := ⟨_, rfl⟩
                rw [← hT]
                have HT := Lib.hid hT
                clear hT
                by_cases hjk : j < k
                · obtain ⟨pj, hpj⟩ : ∃ pj, ps[j]? = some pj := ⟨_, List.getElem?_eq_getElem (by rw [← Hn.out]; omega)⟩
                  have dj : wr.cell? ⟨g, o + j, none⟩ = some (.string pj) := ((HBJ.out.cell (p := ⟨g, o + j, none⟩) hgl2).trans (HB2.out.cell (p := ⟨g, o + j, none⟩) hgl)).trans (HCS.out j pj hpj)
                  have dk : wr.cell? ⟨g, o + k, none⟩ = some (.string p) := (HBJ.out.cell (p := ⟨g, o + k, none⟩) hgl2).trans HD1.out
                  have hgl3 : g < wr.heap.size := Nat.lt_of_lt_of_le hgl2 HBJ.out.size
                  have y5 : (0 : Int) ≤ j := by omega
                  have y6 : (j : Int) < k := by omega
                  have y7 : (j : Int) < n := by omega
                  have hht := has_take ps j pj p hpj
                  have HHT := Lib.hid hht
                  clear hht hpj hjk
                  cases T
                  · by_cases hpp : pj = p
                    · have t5 : (pj.toList == p.toList) = true := by rw [ba_beq]; exact decide_eq_true hpp
                      have HR := Lib.hid (show Value.bool true = .bool (tb || Mx.has (ps.take (j + 1)) p) by rw [HHT.out, decide_eq_true hpp]; simp)
                      clear hpp
                      go_wp2_with fail
                      go_quiet (fail)
                      go_wp2_with fail
                      go_roundw
                      case rel => exact ⟨j + 1, by go_num, by omega, HR.out, below_drewN HBJ.out _⟩
                      case measure => simp [intOf]; omega
                    · have t5 : (pj.toList == p.toList) = false := by rw [ba_beq]; exact decide_eq_false hpp
                      have HR := Lib.hid (show Value.bool false = .bool (tb || Mx.has (ps.take (j + 1)) p) by rw [HHT.out, decide_eq_false hpp, Bool.or_false, ← HT.out])
                      clear hpp
                      go_wp2_with fail
                      go_quiet (fail)
                      go_wp2_with fail
                      go_roundw
                      case rel => exact ⟨j + 1, by go_num, by omega, HR.out, below_drewN HBJ.out _⟩
                      case measure => simp [intOf]; omega
                  · have HR := Lib.hid (show Value.bool true = .bool (tb || Mx.has (ps.take (j + 1)) p) by rw [HHT.out, ← Bool.or_assoc, ← HT.out, Bool.true_or])
                    go_wp2_with fail
                    go_quiet (fail)
                    go_wp2_with fail
                    go_roundw
                    case rel => exact ⟨j + 1, by go_num, by omega, HR.out, below_drewN HBJ.out _⟩
                    case measure => simp [intOf]; omega
                · have hjk2 : j = k := by omega
                  subst hjk2
                  have y5 : ¬ (j : Int) < j := by omega
                  have hgl3 : g < wr.heap.size := Nat.lt_of_lt_of_le hgl2 HBJ.out.size
                  have dk : wr.cell? ⟨g, o + j, none⟩ = some (.string p) := (HBJ.out.cell (p := ⟨g, o + j, none⟩) hgl2).trans HD1.out
                  have HTW := Lib.hid (show T = Mx.tw ps (j + 1) by rw [HT.out, HTB.out, Mx.tw, HPK.out])
                  have HBF := Lib.hid (Below.then HBA.out HBJ.out)
                  have hjc := Mx.jc_take ps j p HPK.out
                  have HNO2 := Lib.hid (show ∀ i q, i < j + 1 → ps[i]? = some q → Lx.Word q.data.toList ∧ q ≠ Mx.VA from fun i q hi hq => by
                    rcases Nat.lt_or_ge i j with h | h
                    · exact HNO.out i q h hq
                    · obtain rfl : i = j := by omega
                      rw [HPK.out] at hq
                      injection hq with hq
                      subst hq
                      exact ⟨Mx.one_word HOO.out.symm (by have := HKD.out; omega), HPV.out⟩)
                  have hps := HPS.out
                  obtain ⟨z, hz⟩ : ∃ z : ByteArray, z = ⟨(70 :: 40 :: Mx.jc (ps.take (j + 1))).toArray⟩ := ⟨_, rfl⟩
                  have hzd : z.data.toList = 70 :: 40 :: Mx.jc (ps.take (j + 1)) := by rw [hz]
                  have HZ := Lib.hid hzd
                  clear hjk hz
                  by_cases hj0 : j = 0
                  · subst hj0
                    have had : ∀ W, (Op.stringOp .add x p).run Tryd.prog W = .ok (.string z) W := by
                      rw [if_pos rfl, List.nil_append] at hjc
                      have e : z.data.toList = x.data.toList ++ p.data.toList := by rw [hzd, HX.out, hjc]; simp [Mx.jc_nil]
                      exact fun W => add_ba _ _ _ (by omega) e W
                    have y6 : ¬ (0 : Int) < (0 : Nat) := by omega
                    simp only [Nat.add_zero] at dk
                    clear hjc hzd hps
                    go_wp2_with fail
                    go_roundw
                    case rel => exact ⟨0 + 1, z, by go_num, by omega, rfl, HZ.out, by rw [HTW.out], HBF.out, HNO2.out⟩
                    case measure => simp [intOf]; omega
                  · rw [if_neg hj0] at hjc
                    have y6 : (0 : Int) < j := by omega
                    obtain ⟨y, hy⟩ : ∃ y : ByteArray, y = ⟨(x.data.toList ++ [44]).toArray⟩ := ⟨_, rfl⟩
                    have hyd : y.data.toList = x.data.toList ++ [44] := by rw [hy]
                    have h2 := congrArg List.length hyd
                    simp only [List.length_append, List.length_cons, List.length_nil, size_list] at h2
                    have had1 : ∀ W, (Op.stringOp .add x ⟨#[44]⟩).run Tryd.prog W = .ok (.string y) W := fun W => add_ba _ _ _ (by show x.size + 1 ≤ _; omega) hyd W
                    have had2 : ∀ W, (Op.stringOp .add y p).run Tryd.prog W = .ok (.string z) W := fun W => add_ba _ _ _ (by omega) (by rw [hzd, hyd, HX.out, hjc]; simp) W
                    clear hjc hzd hps hy hyd h2
                    go_wp2_with fail
                    go_roundw
                    case rel => exact ⟨j + 1, z, by go_num, by omega, rfl, HZ.out, by rw [HTW.out], HBF.out, HNO2.out⟩
                    case measure => simp [intOf]; omega
          · have t2 : (kd != 1) = true := by simpa using hk1
            clear hk1
            refine key.mono ?_
            rintro e w1 ⟨rfl, hB1⟩
            have hBf := Below.then HB.out hB1
            clear key
            go_wp2_with fail
            go_ret
            exact ⟨rfl, hBf.alloc hBf.size _⟩
      · have hkn : k = n := by omega
        subst hkn
        have y2 : ¬ (k : Int) < k := by omega
        have hx2 := Lib.hid (show x.data.toList = 70 :: 40 :: Mx.jc ps by have := HX.out; rwa [List.take_of_length_le (by rw [← Hn.out]; exact Nat.le_refl _)] at this)
        obtain ⟨q, hq⟩ : ∃ q, q = Mx.tw ps k := ⟨_, rfl⟩
        rw [← hq]
        have HQ := Lib.hid (show q = Mx.tw ps ps.length by rw [hq, ← Hn.out])
        clear hq
        go_wp2_with fail
        exact lpar_mid w _ HG.out pa k pc va q ps x HPW.out Hn.out h30 HB.out (fun p hp => by
          obtain ⟨j, hj⟩ := List.mem_iff_getElem?.1 hp
          exact (HNO.out j p (by rw [Hn.out]; exact (List.getElem?_eq_some_iff.1 hj).1) hj).1) (fun p hp => by
          obtain ⟨j, hj⟩ := List.mem_iff_getElem?.1 hp
          exact (HNO.out j p (by rw [Hn.out]; exact (List.getElem?_eq_some_iff.1 hj).1) hj).2) hx2.out (by omega) HQ.out _ _ _ _ _ _ _ _ _ _ _ _ _ _ _ _ _ _ _ _ _ _ _ _ _ _ _ _ _ _ _ _ _ _ _ _ _ _ _ _ _ _ _ _ _ _ _ _ _ _ _ _ _ _ _ _ _ _ _ _ _ _ _ _ _ _ _ _ _ _ _ _ _ _ _ _ _ _ _ _ _ _ _ _ _ _ _ _ _ _ _ _ _ _ _ _ _ _ _ _ _ _ _ _ _ _ _ _ _ _ _ _ _ _ _ _ _ _ _ _ _ _ _ _ _ _ _ _ _ _ _ _ _ _ _ _ _ _ _ _ _ _ _ _ _ _ _ _ _
  · have y1 : (30 : Int) < n := by omega
    go_enter Tryd.func8, Tryd.ntmps8
    go_wp2_with fail
    refine (awake_any _ HG.out).mono ?_
    rintro e w0 ⟨rfl, hB0⟩
    go_wp2_with fail
    go_ret
    exact ⟨rfl, hB0⟩

end Go.Proofs.YtfjbmenakcnadaaDoor
