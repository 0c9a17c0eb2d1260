/- What is proved: MacroSame answers true, in whatever memory. (and what stands with it) -/
import Derived.Test.YtfjbmenakcnadaaDoorGp
import Derived.Test.YtfjbmenakcnadaaDoorGl
import Derived.Test.YtfjbmenakcnadaaDoorGm
import Derived.Deep.RegionWith
import Derived.Deep.RegionHeld3

/- What is proved: MacroSame answers true, in whatever memory. -/
namespace Go.Proofs.YtfjbmenakcnadaaDoor
open Go.RowKit Go.Shelf Go.WideMaps

/-- The law's own define, its answer with names. -/
def DefM (w : World) (res : Mx.M × Int) (e : Ending) (w' : World) : Prop :=
  ∃ nm fn pa pn pc va ba bn bc, e = .returned (.tuple #[.agg #[.string nm, .bool fn, .slice pa pn pc, .bool va, .slice ba bn bc], .int .i64 res.2]) ∧ MV w' (.agg #[.string nm, .bool fn, .slice pa pn pc, .bool va, .slice ba bn bc]) res.1 ∧ Below w.heap.size w w'
theorem box_cells {W : World} {b t : Nat} {a0 a1 a2 a3 a4 : Value} (h : W.heap[b]? = some (.cells #[a0, a1, a2, a3, a4] t (0, 0))) :
    W.cell? ⟨b, 0, none⟩ = some a0 ∧ W.cell? ⟨b, 1, none⟩ = some a1 ∧ W.cell? ⟨b, 2, none⟩ = some a2 ∧ W.cell? ⟨b, 3, none⟩ = some a3 ∧ W.cell? ⟨b, 4, none⟩ = some a4 :=
  ⟨(Lib.cell_of_heap h 0).trans rfl, (Lib.cell_of_heap h 1).trans rfl, (Lib.cell_of_heap h 2).trans rfl, (Lib.cell_of_heap h 3).trans rfl, (Lib.cell_of_heap h 4).trans rfl⟩
theorem ldef_mv (s : ByteArray) (hs : s.size ≤ 10000000) (w : World) (hG : Glob w) : Calls Tryd.prog 10 #[.string s] w (DefM w (Mx.df s)) := by
  refine (ldef_any s hs w hG).mono ?_
  rintro e W ⟨mv, rfl, hm, hB⟩
  obtain ⟨pv, bv, rfl, hp, hb⟩ := id hm
  obtain ⟨pa, pn, pc, rfl⟩ := row_slice hp
  obtain ⟨ba, bn, bc, rfl⟩ := row_slice hb
  exact ⟨_, _, _, _, _, _, _, _, _, rfl, hm.mv, hB⟩

set_option maxRecDepth 100000 in
set_option maxHeartbeats 8000000 in
theorem lsame_any (s t u : ByteArray) (hs : s.size ≤ maxLen) (ht : t.size ≤ maxLen) (hu : u.size ≤ maxLen) (w : World) (hG : Glob w) : Calls Tryd.prog 7 #[.string s, .string t, .string u] w (TruePost w) := by
  unfold maxLen at hs ht hu
  have HG := Lib.hid hG
  clear hG
  by_cases h1 : s.size ≤ 300
  · by_cases h2 : t.size ≤ 300
    · by_cases h3 : u.size ≤ 300
      · have y1 : ¬ (300 : Int) < s.size := by omega
        have y2 : ¬ (300 : Int) < t.size := by omega
        have y3 : ¬ (300 : Int) < u.size := by omega
        obtain ⟨D, hD⟩ : ∃ D : List UInt8, D = 32 :: 32 :: s.data.toList := ⟨_, rfl⟩
        have hDl : D.length ≤ 302 := by rw [hD]; simp only [List.length_cons, size_list]; omega
        have hadd : ∀ W, (Op.stringOp .add ⟨#[32, 32]⟩ s).run Tryd.prog W = .ok (.string ⟨D.toArray⟩) W := fun W => by
          have := add_to [32, 32] s.data.toList D (by simp only [List.length_cons, List.length_nil, size_list]; omega) (by rw [hD]; rfl) W
          simpa using this
        have hsz : (⟨D.toArray⟩ : ByteArray).size ≤ 10000000 := by show D.toArray.size ≤ _; simp; omega
        have hsp := Mx.df_sp s ⟨D.toArray⟩ (by simp [hD])
        obtain ⟨d, hd⟩ : ∃ d : ByteArray, d = ⟨D.toArray⟩ := ⟨_, rfl⟩
        rw [← hd] at hadd hsz hsp
        have k1 := Mx.same_refl (Mx.df s).1
        have k2 := Mx.same_symm (Mx.df s).1 (Mx.df t).1
        obtain ⟨X, hX⟩ : ∃ X, X = Mx.same (Mx.df s).1 (Mx.df t).1 := ⟨_, rfl⟩
        obtain ⟨Y, hY⟩ : ∃ Y, Y = Mx.same (Mx.df t).1 (Mx.df u).1 := ⟨_, rfl⟩
        obtain ⟨Z, hZ⟩ : ∃ Z, Z = Mx.same (Mx.df s).1 (Mx.df u).1 := ⟨_, rfl⟩
        have hXYZ : X = true → Y = true → Z = true := by rw [hX, hY, hZ]; exact Mx.same_trans
        rw [← hX] at k2
        have HX := Lib.hid hX
        have HY := Lib.hid hY
        have HZ := Lib.hid hZ
        have HK1 := Lib.hid k1
        have HK2 := Lib.hid k2
        have HSP := Lib.hid hsp
        have HXYZ := Lib.hid hXYZ
        have HSZ := Lib.hid hsz
        clear hD hDl hd hsp k1 k2 hX hY hZ hXYZ hsz
        have LS := Lib.hid (show s.size ≤ 10000000 by omega)
        have LT := Lib.hid (show t.size ≤ 10000000 by omega)
        have LU := Lib.hid (show u.size ≤ 10000000 by omega)
        obtain ⟨ra, hra⟩ : ∃ r, r = Mx.df s := ⟨_, rfl⟩
        obtain ⟨rb, hrb⟩ : ∃ r, r = Mx.df t := ⟨_, rfl⟩
        obtain ⟨rc, hrc⟩ : ∃ r, r = Mx.df u := ⟨_, rfl⟩
        obtain ⟨rd, hrd⟩ : ∃ r, r = Mx.df d := ⟨_, rfl⟩
        have da := fun w' h => ldef_mv s LS.out w' h
        have db := fun w' h => ldef_mv t LT.out w' h
        have dc := fun w' h => ldef_mv u LU.out w' h
        have dd := fun w' h => ldef_mv d HSZ.out w' h
        rw [← hra] at da HX HZ HK1 HK2 HSP
        rw [← hrb] at db HX HY HK2
        rw [← hrc] at dc HY HZ
        rw [← hrd] at dd HSP
        clear hra hrb hrc hrd h1 h2 h3 hs ht hu
        go_enter Tryd.func7, Tryd.ntmps7
        go_wp2_with fail
        refine (awake_any _ HG.out).mono ?_
        rintro e w0 ⟨rfl, hB0⟩
        go_wp2_with fail
        refine (da _ (HG.out.later hB0)).mono ?_
        rintro e w1 ⟨n1, f1, p1, q1, r1, v1, b1, c1, d1, rfl, m1, hB10⟩
        replace hB10 := Below.then hB0 hB10
        have hB1 := hB10.alloc hB10.size (.cells #[.string n1, .bool f1, .slice p1 q1 r1, .bool v1, .slice b1 c1 d1] 26)
        have hA1 : Below w1.heap.size w1 (w1.alloc (.cells #[.string n1, .bool f1, .slice p1 q1 r1, .bool v1, .slice b1 c1 d1] 26)) := (Below.refl _ _).alloc (Nat.le_refl _) _
        have k1 := heap_alloc_new w1 (.cells #[.string n1, .bool f1, .slice p1 q1 r1, .bool v1, .slice b1 c1 d1] 26)
        replace m1 := m1.below hA1
        clear hA1 hB10 hB0
        go_wp2_with fail
        refine (db _ (HG.out.later hB1)).mono ?_
        rintro e w2 ⟨n2, f2, p2, q2, r2, v2, b2, c2, d2, rfl, m2, hB20⟩
        replace k1 := (hB20.block _ (lt_of_block k1)).trans k1
        replace m1 := m1.below hB20
        replace hB20 := Below.then hB1 hB20
        have hB2 := hB20.alloc hB20.size (.cells #[.string n2, .bool f2, .slice p2 q2 r2, .bool v2, .slice b2 c2 d2] 26)
        have hA2 : Below w2.heap.size w2 (w2.alloc (.cells #[.string n2, .bool f2, .slice p2 q2 r2, .bool v2, .slice b2 c2 d2] 26)) := (Below.refl _ _).alloc (Nat.le_refl _) _
        replace k1 := (hA2.block _ (lt_of_block k1)).trans k1
        replace m1 := m1.below hA2
        have k2 := heap_alloc_new w2 (.cells #[.string n2, .bool f2, .slice p2 q2 r2, .bool v2, .slice b2 c2 d2] 26)
        replace m2 := m2.below hA2
        clear hA2 hB20 hB1
        go_wp2_with fail
        refine (dc _ (HG.out.later hB2)).mono ?_
        rintro e w3 ⟨n3, f3, p3, q3, r3, v3, b3, c3, d3, rfl, m3, hB30⟩
        replace k1 := (hB30.block _ (lt_of_block k1)).trans k1
        replace m1 := m1.below hB30
        replace k2 := (hB30.block _ (lt_of_block k2)).trans k2
        replace m2 := m2.below hB30
        replace hB30 := Below.then hB2 hB30
        have hB3 := hB30.alloc hB30.size (.cells #[.string n3, .bool f3, .slice p3 q3 r3, .bool v3, .slice b3 c3 d3] 26)
        have hA3 : Below w3.heap.size w3 (w3.alloc (.cells #[.string n3, .bool f3, .slice p3 q3 r3, .bool v3, .slice b3 c3 d3] 26)) := (Below.refl _ _).alloc (Nat.le_refl _) _
        replace k1 := (hA3.block _ (lt_of_block k1)).trans k1
        replace m1 := m1.below hA3
        replace k2 := (hA3.block _ (lt_of_block k2)).trans k2
        replace m2 := m2.below hA3
        have k3 := heap_alloc_new w3 (.cells #[.string n3, .bool f3, .slice p3 q3 r3, .bool v3, .slice b3 c3 d3] 26)
        replace m3 := m3.below hA3
        clear hA3 hB30 hB2
        go_wp2_with fail
        refine (dd _ (HG.out.later hB3)).mono ?_
        rintro e w4 ⟨n4, f4, p4, q4, r4, v4, b4, c4, d4, rfl, m4, hB40⟩
        replace k1 := (hB40.block _ (lt_of_block k1)).trans k1
        replace m1 := m1.below hB40
        replace k2 := (hB40.block _ (lt_of_block k2)).trans k2
        replace m2 := m2.below hB40
        replace k3 := (hB40.block _ (lt_of_block k3)).trans k3
        replace m3 := m3.below hB40
        replace hB40 := Below.then hB3 hB40
        have hB4 := hB40.alloc hB40.size (.cells #[.string n4, .bool f4, .slice p4 q4 r4, .bool v4, .slice b4 c4 d4] 26)
        have hA4 : Below w4.heap.size w4 (w4.alloc (.cells #[.string n4, .bool f4, .slice p4 q4 r4, .bool v4, .slice b4 c4 d4] 26)) := (Below.refl _ _).alloc (Nat.le_refl _) _
        replace k1 := (hA4.block _ (lt_of_block k1)).trans k1
        replace m1 := m1.below hA4
        replace k2 := (hA4.block _ (lt_of_block k2)).trans k2
        replace m2 := m2.below hA4
        replace k3 := (hA4.block _ (lt_of_block k3)).trans k3
        replace m3 := m3.below hA4
        have k4 := heap_alloc_new w4 (.cells #[.string n4, .bool f4, .slice p4 q4 r4, .bool v4, .slice b4 c4 d4] 26)
        replace m4 := m4.below hA4
        clear hA4 hB40 hB3
        obtain ⟨x10, x11, x12, x13, x14⟩ := box_cells k1
        go_wp2_with fail
        clear x10 x11 x12 x13 x14
        refine (msame_any (.agg #[.string n1, .bool f1, .slice p1 q1 r1, .bool v1, .slice b1 c1 d1]) (.agg #[.string n1, .bool f1, .slice p1 q1 r1, .bool v1, .slice b1 c1 d1]) ra.1 ra.1 _ m1 m1).mono ?_
        rw [HK1.out]
        rintro e V0 ⟨rfl, hC0⟩
        replace k1 := (hC0.block _ (lt_of_block k1)).trans k1
        replace m1 := m1.below hC0
        replace k2 := (hC0.block _ (lt_of_block k2)).trans k2
        replace m2 := m2.below hC0
        replace k3 := (hC0.block _ (lt_of_block k3)).trans k3
        replace m3 := m3.below hC0
        replace k4 := (hC0.block _ (lt_of_block k4)).trans k4
        replace m4 := m4.below hC0
        have hD0 := Below.then hB4 hC0
        clear hB4 hC0
        obtain ⟨x10, x11, x12, x13, x14⟩ := box_cells k1
        obtain ⟨x20, x21, x22, x23, x24⟩ := box_cells k2
        go_wp2_with fail
        clear x10 x11 x12 x13 x14 x20 x21 x22 x23 x24
        refine (msame_any (.agg #[.string n1, .bool f1, .slice p1 q1 r1, .bool v1, .slice b1 c1 d1]) (.agg #[.string n2, .bool f2, .slice p2 q2 r2, .bool v2, .slice b2 c2 d2]) ra.1 rb.1 _ m1 m2).mono ?_
        rw [HX.out.symm]
        rintro e V1 ⟨rfl, hC1⟩
        replace k1 := (hC1.block _ (lt_of_block k1)).trans k1
        replace m1 := m1.below hC1
        replace k2 := (hC1.block _ (lt_of_block k2)).trans k2
        replace m2 := m2.below hC1
        replace k3 := (hC1.block _ (lt_of_block k3)).trans k3
        replace m3 := m3.below hC1
        replace k4 := (hC1.block _ (lt_of_block k4)).trans k4
        replace m4 := m4.below hC1
        have hD1 := Below.then hD0 hC1
        clear hD0 hC1
        obtain ⟨x10, x11, x12, x13, x14⟩ := box_cells k1
        obtain ⟨x20, x21, x22, x23, x24⟩ := box_cells k2
        go_wp2_with fail
        clear x10 x11 x12 x13 x14 x20 x21 x22 x23 x24
        refine (msame_any (.agg #[.string n2, .bool f2, .slice p2 q2 r2, .bool v2, .slice b2 c2 d2]) (.agg #[.string n1, .bool f1, .slice p1 q1 r1, .bool v1, .slice b1 c1 d1]) rb.1 ra.1 _ m2 m1).mono ?_
        rw [HK2.out]
        rintro e V2 ⟨rfl, hC2⟩
        replace k1 := (hC2.block _ (lt_of_block k1)).trans k1
        replace m1 := m1.below hC2
        replace k2 := (hC2.block _ (lt_of_block k2)).trans k2
        replace m2 := m2.below hC2
        replace k3 := (hC2.block _ (lt_of_block k3)).trans k3
        replace m3 := m3.below hC2
        replace k4 := (hC2.block _ (lt_of_block k4)).trans k4
        replace m4 := m4.below hC2
        have hD2 := Below.then hD1 hC2
        clear hD1 hC2
        obtain ⟨x20, x21, x22, x23, x24⟩ := box_cells k2
        obtain ⟨x30, x31, x32, x33, x34⟩ := box_cells k3
        go_wp2_with fail
        clear x20 x21 x22 x23 x24 x30 x31 x32 x33 x34
        refine (msame_any (.agg #[.string n2, .bool f2, .slice p2 q2 r2, .bool v2, .slice b2 c2 d2]) (.agg #[.string n3, .bool f3, .slice p3 q3 r3, .bool v3, .slice b3 c3 d3]) rb.1 rc.1 _ m2 m3).mono ?_
        rw [HY.out.symm]
        rintro e V3 ⟨rfl, hC3⟩
        replace k1 := (hC3.block _ (lt_of_block k1)).trans k1
        replace m1 := m1.below hC3
        replace k2 := (hC3.block _ (lt_of_block k2)).trans k2
        replace m2 := m2.below hC3
        replace k3 := (hC3.block _ (lt_of_block k3)).trans k3
        replace m3 := m3.below hC3
        replace k4 := (hC3.block _ (lt_of_block k4)).trans k4
        replace m4 := m4.below hC3
        have hD3 := Below.then hD2 hC3
        clear hD2 hC3
        obtain ⟨x10, x11, x12, x13, x14⟩ := box_cells k1
        obtain ⟨x30, x31, x32, x33, x34⟩ := box_cells k3
        go_wp2_with fail
        clear x10 x11 x12 x13 x14 x30 x31 x32 x33 x34
        refine (msame_any (.agg #[.string n1, .bool f1, .slice p1 q1 r1, .bool v1, .slice b1 c1 d1]) (.agg #[.string n3, .bool f3, .slice p3 q3 r3, .bool v3, .slice b3 c3 d3]) ra.1 rc.1 _ m1 m3).mono ?_
        rw [HZ.out.symm]
        rintro e V4 ⟨rfl, hC4⟩
        replace k1 := (hC4.block _ (lt_of_block k1)).trans k1
        replace m1 := m1.below hC4
        replace k2 := (hC4.block _ (lt_of_block k2)).trans k2
        replace m2 := m2.below hC4
        replace k3 := (hC4.block _ (lt_of_block k3)).trans k3
        replace m3 := m3.below hC4
        replace k4 := (hC4.block _ (lt_of_block k4)).trans k4
        replace m4 := m4.below hC4
        have hD4 := Below.then hD3 hC4
        clear hD3 hC4
        obtain ⟨x10, x11, x12, x13, x14⟩ := box_cells k1
        obtain ⟨x40, x41, x42, x43, x44⟩ := box_cells k4
        go_wp2_with fail
        clear x10 x11 x12 x13 x14 x40 x41 x42 x43 x44
        refine (msame_any (.agg #[.string n1, .bool f1, .slice p1 q1 r1, .bool v1, .slice b1 c1 d1]) (.agg #[.string n4, .bool f4, .slice p4 q4 r4, .bool v4, .slice b4 c4 d4]) ra.1 rd.1 _ m1 m4).mono ?_
        rw [HSP.out.2]
        rintro e V5 ⟨rfl, hC5⟩
        replace k1 := (hC5.block _ (lt_of_block k1)).trans k1
        replace m1 := m1.below hC5
        replace k2 := (hC5.block _ (lt_of_block k2)).trans k2
        replace m2 := m2.below hC5
        replace k3 := (hC5.block _ (lt_of_block k3)).trans k3
        replace m3 := m3.below hC5
        replace k4 := (hC5.block _ (lt_of_block k4)).trans k4
        replace m4 := m4.below hC5
        have hD5 := Below.then hD4 hC5
        clear hD4 hC5
        clear k1 k2 k3 k4 m1 m2 m3 m4
        go_wp2_with fail
        refine (da _ (HG.out.later hD5)).mono ?_
        rintro e w5 ⟨n5, f5, p5, q5, r5, v5, b5, c5, d5, rfl, m5, hB50⟩
        have hB5 := Below.then hD5 hB50
        clear m5 hB50 hD5
        have he : rd.2 = ra.2 := HSP.out.1
        have hxyz := HXYZ.out
        rw [he]
        clear he
        cases X
        · go_wp2_with fail
          go_ret
          exact ⟨rfl, hB5.alloc hB5.size _⟩
        · cases Y
          · go_wp2_with fail
            go_ret
            exact ⟨rfl, hB5.alloc hB5.size _⟩
          · obtain rfl := hxyz rfl rfl
            go_wp2_with fail
            go_ret
            exact ⟨rfl, hB5.alloc hB5.size _⟩
      · have y1 : ¬ (300 : Int) < s.size := by omega
        have y2 : ¬ (300 : Int) < t.size := by omega
        have y3 : (300 : Int) < u.size := by omega
        go_enter Tryd.func7, Tryd.ntmps7
        go_wp2_with fail
        refine (awake_any _ HG.out).mono ?_
        rintro e w0 ⟨rfl, hB0⟩
        go_wp2_with fail
        go_ret
        exact ⟨rfl, hB0⟩
    · have y1 : ¬ (300 : Int) < s.size := by omega
      have y2 : (300 : Int) < t.size := by omega
      go_enter Tryd.func7, Tryd.ntmps7
      go_wp2_with fail
      refine (awake_any _ HG.out).mono ?_
      rintro e w0 ⟨rfl, hB0⟩
      go_wp2_with fail
      go_ret
      exact ⟨rfl, hB0⟩
  · have y1 : (300 : Int) < s.size := by omega
    go_enter Tryd.func7, Tryd.ntmps7
    go_wp2_with fail
    refine (awake_any _ HG.out).mono ?_
    rintro e w0 ⟨rfl, hB0⟩
    go_wp2_with fail
    go_ret
    exact ⟨rfl, hB0⟩
end Go.Proofs.YtfjbmenakcnadaaDoor

/- What is proved: what the document's own Same tells of any two macros. -/
namespace Go.Proofs.YtfjbmenakcnadaaDoor
open Go.RowKit Go.Shelf Go.WideMaps

theorem below_cof {W W' : World} {a : Addr} {v : Value} (h : Below W.heap.size W W') (hc : W.cell? a = some v) : W'.cell? a = some v := (h.cell (lt_of_cell hc)).trans hc

set_option maxRecDepth 100000 in
set_option maxHeartbeats 4000000 in
theorem rsame_any (v u : Value) (a b : Mx.M) (w : World) (hv : MV w v a) (hu : MV w u b) (hla : a.body.length * 56 ≤ 140737488355328) (hlb : b.body.length * 56 ≤ 140737488355328) :
    Calls Tryd.prog 18 #[v, u] w fun e w' => e = .returned (.bool (Mx.same a b)) ∧ Below w.heap.size w w' := by
  obtain ⟨pv, bv, rfl, hp, hb⟩ := hv
  obtain ⟨pu, bu, rfl, hq, hc⟩ := hu
  obtain ⟨nm, fn, ps, va, body⟩ := a
  obtain ⟨nm', fn', ps', va', body'⟩ := b
  dsimp only at hp hb hq hc hla hlb ⊢
  have HLA := Lib.hid hla
  have HLB := Lib.hid hlb
  clear hla hlb
  obtain ⟨pa, pc, rfl, -⟩ := id hp
  obtain ⟨ba, bc, rfl, -⟩ := id hb
  obtain ⟨qa, qc, rfl, -⟩ := id hq
  obtain ⟨ca, cc, rfl, -⟩ := id hc
  obtain ⟨pn, hpn⟩ : ∃ n, n = ps.length := ⟨_, rfl⟩
  obtain ⟨bn, hbn⟩ : ∃ n, n = body.length := ⟨_, rfl⟩
  obtain ⟨qn, hqn⟩ : ∃ n, n = ps'.length := ⟨_, rfl⟩
  obtain ⟨cn, hcn⟩ : ∃ n, n = body'.length := ⟨_, rfl⟩
  rw [← hpn] at hp ⊢
  rw [← hbn] at hb ⊢
  rw [← hqn] at hq ⊢
  rw [← hcn] at hc ⊢
  obtain ⟨res, hres⟩ : ∃ res, res = Mx.same ⟨nm, fn, ps, va, body⟩ ⟨nm', fn', ps', va', body'⟩ := ⟨_, rfl⟩
  rw [← hres]
  have hB : Below w.heap.size w ((w.alloc (.cells #[.string nm, .bool fn, .slice pa pn pc, .bool va, .slice ba bn bc] 26)).alloc (.cells #[.string nm', .bool fn', .slice qa qn qc, .bool va', .slice ca cn cc] 26)) := ((Below.refl _ w).alloc (Nat.le_refl _) _).alloc (by simp) _
  have HB := Lib.hid hB
  have HP := Lib.hid (hp.below hB)
  have HQ := Lib.hid (hq.below hB)
  have HBd := Lib.hid (hb.below hB)
  have HC := Lib.hid (hc.below hB)
  have HRES := Lib.hid hres
  have k0 := heap_alloc_new w (.cells #[.string nm, .bool fn, .slice pa pn pc, .bool va, .slice ba bn bc] 26)
  replace k0 := (Below.heap_alloc _ (.cells #[.string nm', .bool fn', .slice qa qn qc, .bool va', .slice ca cn cc] 26) _ (lt_of_block k0)).trans k0
  have k1 := heap_alloc_new (w.alloc (.cells #[.string nm, .bool fn, .slice pa pn pc, .bool va, .slice ba bn bc] 26)) (.cells #[.string nm', .bool fn', .slice qa qn qc, .bool va', .slice ca cn cc] 26)
  simp only [World.size_alloc] at k1
  have HK0 := Lib.hid k0
  have HK1 := Lib.hid k1
  have Hpn := Lib.hid hpn
  have Hqn := Lib.hid hqn
  have HP0 := Lib.hid hp
  have HQ0 := Lib.hid hq
  have HB0 := Lib.hid hb
  have HC0 := Lib.hid hc
  have Hbn := Lib.hid hbn
  have Hcn := Lib.hid hcn
  have hpm : pn ≤ 9223372036854775807 := by obtain ⟨_, _, e, h1, h2, -⟩ := id hp; unfold maxLen at h2; injection e; omega
  clear HP HQ HBd HC hp hb hq hc hres hB hpn hbn hqn hcn k0 k1
  by_cases h1 : nm = nm'
  · subst h1
    by_cases h2 : fn = fn'
    · subst h2
      by_cases h3 : va = va'
      · subst h3
        by_cases h4 : pn = qn
        · subst h4
          go_enter Tryd.func18, Tryd.ntmps18
          go_wp2_with fail
          go_loopw [5] (fun i wr => ∃ k : Nat, i = .int .i64 k ∧ k ≤ pn ∧ Below w.heap.size w wr ∧ (∀ i, i < k → ps[i]? = ps'[i]?) ∧ wr.heap[w.heap.size]? = some (.cells #[.string nm, .bool fn, .slice pa pn pc, .bool va, .slice ba bn bc] 26) ∧ wr.heap[w.heap.size + 1]? = some (.cells #[.string nm, .bool fn, .slice qa pn qc, .bool va, .slice ca cn cc] 26)) (fun i _ => pn - (intOf i).toNat)
          case atStart => exact ⟨0, rfl, Nat.zero_le _, HB.out, fun i hi => absurd hi (Nat.not_lt_zero _), HK0.out, HK1.out⟩
          case round =>
            obtain ⟨k, rfl, hk, hW, hal, g0, g1⟩ := hrel
            have HAL := Lib.hid hal
            obtain ⟨c00, c01, c02, c03, c04⟩ := box_cells g0
            obtain ⟨c10, c11, c12, c13, c14⟩ := box_cells g1
            have G0 := Lib.hid g0
            have G1 := Lib.hid g1
            have HW := Lib.hid hW
            clear hal g0 g1 hW
            by_cases hlt : k < pn
            · obtain ⟨p, hp⟩ : ∃ p, ps[k]? = some p := ⟨_, List.getElem?_eq_getElem (by rw [← Hpn.out]; exact hlt)⟩
              obtain ⟨q, hq⟩ : ∃ q, ps'[k]? = some q := ⟨_, List.getElem?_eq_getElem (by rw [← Hqn.out]; exact hlt)⟩
              obtain ⟨ad, cap, ea, -, -, h3⟩ := HP0.out.below HW.out
              obtain ⟨ad', cap', eb, -, -, h3'⟩ := HQ0.out.below HW.out
              injection ea with ea
              injection eb with eb
              subst ea eb
              obtain ⟨g, o, rfl, cp⟩ := h3 k p hp
              obtain ⟨g', o', rfl, cq⟩ := h3' k q hq
              clear h3 h3'
              have y1 : (0 : Int) ≤ k := by omega
              have y2 : (k : Int) < pn := by omega
              have HPK := Lib.hid hp
              have HQK := Lib.hid hq
              clear hp hq
              by_cases hpq : p = q
              · subst hpq
                have t4 : (p.toList != p.toList) = false := by simp
                go_wp2_with fail
                go_quiet (fail)
                go_wp2_with fail
                go_roundw
                case rel =>
                  refine ⟨k + 1, by go_num, by omega, below_drewN HW.out _, fun i hi => ?_, ?_, ?_⟩
                  · rcases Nat.lt_or_ge i k with h | h
                    · exact HAL.out i h
                    · obtain rfl : i = k := by omega
                      rw [HPK.out, HQK.out]
                  · exact G0.out
                  · exact G1.out
                case measure => simp [intOf]; omega
              · have HE := Lib.hid (show res = false by
                  rw [HRES.out]
                  have : ps ≠ ps' := fun e => hpq (Option.some.inj (by rw [← HPK.out, ← HQK.out, e]))
                  simp [Mx.same, this])
                have t6 := lit_ne hpq
                have t4 : (p.toList != q.toList) = true := by simpa using t6
                clear hpq
                go_wp2_with fail
                go_quiet (fail)
                go_wp2_with fail
                go_ret
                exact ⟨by rw [HE.out]; rfl, below_drewN HW.out _⟩
            · have y3 : ¬ (k : Int) < pn := by omega
              go_wp2_with fail
              have e : k = pn := by omega
              subst e
              have hpq : ps = ps' := List.ext_getElem? fun i => by
                rcases Nat.lt_or_ge i k with h | h
                · exact HAL.out i h
                · rw [List.getElem?_eq_none (by rw [← Hpn.out]; exact h), List.getElem?_eq_none (by rw [← Hqn.out]; exact h)]
              subst hpq
              have HE := Lib.hid (show res = decide ((Mx.bare body).map Mx.kal = (Mx.bare body').map Mx.kal) by rw [HRES.out]; simp [Mx.same, Mx.sameB])
              clear c00 c01 c02 c03 c10 c11 c12 c13 hlt y3 HAL HP0 HQ0 Hpn Hqn HRES G0 G1
              have hW := HW.out
              go_region_held3 (fun w' => w'.cell? ⟨w.heap.size, 4, none⟩ = some (.slice ba bn bc) ∧ w'.cell? ⟨w.heap.size + 1, 4, none⟩ = some (.slice ca cn cc) ∧ Below w.heap.size w w')
                (first
                  | exact ⟨c04, c14, hW.drew⟩
                  | (refine ⟨?_, ?_, ?_⟩ <;> go_keep)
                  | (go_split_ands
                     refine ⟨?_, ?_, ?_⟩
                     · exact below_cof hB2 (by assumption)
                     · exact below_cof hB2 (by assumption)
                     · exact Below.trans (by assumption) (hB2.mono (Below.size (by assumption)))))
                (first
                  | (go_at_call_of 41 (Value.slice ba bn bc); go_split_ands; refine (rbare_any _ body _ (HB0.out.below (by assumption)) HLA.out).mono ?_; rintro e w1 ⟨u, rfl, hown, hB2⟩; have hk1 : Ks w1 u (Mx.bare body) := Ks.of_row (by rw [bare_len]; exact hown); clear hown)
                  | (go_at_call_of 41 (Value.slice ca cn cc); go_split_ands; refine (rbare_any _ body' _ (HC0.out.below (by assumption)) HLB.out).mono ?_; rintro e w1 ⟨u', rfl, hown', hB2⟩; have hk2 : Ks w1 u' (Mx.bare body') := Ks.of_row (by rw [bare_len]; exact hown'); replace hk1 := hk1.below hB2; clear hown')
                  | (go_at_call 40; refine (kalike_any _ _ (Mx.bare body) (Mx.bare body') _ hk1 hk2).mono ?_; rintro e w1 ⟨rfl, hB2⟩))
              go_split_ands
              go_wp2_with fail
              go_ret
              exact ⟨by rw [HE.out]; rfl, by assumption⟩
        · have HE := Lib.hid (show res = false by
            rw [HRES.out]
            have : ps ≠ ps' := fun e => h4 (by rw [Hpn.out, Hqn.out, e])
            simp [Mx.same, this])
          have t1 : ((pn : Int) != qn) = true := by simp; omega
          have t2 : ¬ (pn : Int) = qn := by omega
          clear h4
          go_enter Tryd.func18, Tryd.ntmps18
          go_wp2_with fail
          go_ret
          exact ⟨by rw [HE.out]; rfl, HB.out⟩
      · have HE := Lib.hid (show res = false by rw [HRES.out]; simp [Mx.same, h3])
        cases va <;> cases va'
        all_goals
          first
          | exact absurd rfl h3
          | (clear h3
             go_enter Tryd.func18, Tryd.ntmps18
             go_wp2_with fail
             go_ret
             exact ⟨by rw [HE.out]; rfl, HB.out⟩)
    · have HE := Lib.hid (show res = false by rw [HRES.out]; simp [Mx.same, h2])
      cases fn <;> cases fn'
      all_goals
        first
        | exact absurd rfl h2
        | (clear h2
           go_enter Tryd.func18, Tryd.ntmps18
           go_wp2_with fail
           go_ret
           exact ⟨by rw [HE.out]; rfl, HB.out⟩)
  · have t1 := lit_ne h1
    have t2 : (nm.toList != nm'.toList) = true := by simpa using t1
    have HE := Lib.hid (show res = false by rw [HRES.out]; simp [Mx.same, h1])
    clear h1
    go_enter Tryd.func18, Tryd.ntmps18
    go_wp2_with fail
    go_ret
    exact ⟨by rw [HE.out]; rfl, HB.out⟩
end Go.Proofs.YtfjbmenakcnadaaDoor
