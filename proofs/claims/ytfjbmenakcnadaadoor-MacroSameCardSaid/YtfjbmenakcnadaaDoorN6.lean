/- What is proved: MacroSame answers true, in whatever memory. -/
import Derived.Test.YtfjbmenakcnadaaDoorN5
import Derived.Test.YtfjbmenakcnadaaDoorN2
import Derived.Test.YtfjbmenakcnadaaDoorP2
namespace Go.Proofs.YtfjbmenakcnadaaDoor
open Go.RowKit Go.Shelf Go.WideMaps

/-- The law's own define, its answer with names. -/
def DefM (w : World) (res : Mx.M × Int) (e : Ending) (w' : World) : Prop :=
  ∃ nm fn pa pn pc va ba bn bc, e = .returned (.tuple #[.agg #[.string nm, .bool fn, .slice pa pn pc, .bool va, .slice ba bn bc], .int .i64 res.2]) ∧ MV w' (.agg #[.string nm, .bool fn, .slice pa pn pc, .bool va, .slice ba bn bc]) res.1 ∧ Below w.heap.size w w'
theorem box_cells {W : World} {b t : Nat} {a0 a1 a2 a3 a4 : Value} (h : W.heap[b]? = some (.cells #[a0, a1, a2, a3, a4] t (0, 0))) :
    W.cell? ⟨b, 0, none⟩ = some a0 ∧ W.cell? ⟨b, 1, none⟩ = some a1 ∧ W.cell? ⟨b, 2, none⟩ = some a2 ∧ W.cell? ⟨b, 3, none⟩ = some a3 ∧ W.cell? ⟨b, 4, none⟩ = some a4 :=
  ⟨(Lib.cell_of_heap h 0).trans rfl, (Lib.cell_of_heap h 1).trans rfl, (Lib.cell_of_heap h 2).trans rfl, (Lib.cell_of_heap h 3).trans rfl, (Lib.cell_of_heap h 4).trans rfl⟩
theorem ldef_mv (s : ByteArray) (hs : s.size ≤ 10000000) (w : World) (hG : Glob w) : Calls Tryd.prog 10 #[.string s] w (DefM w (Mx.df s)) := by
  refine (ldef_any s hs w hG).mono ?_
  rintro e W ⟨mv, rfl, hm, hB⟩
  obtain ⟨pv, bv, rfl, hp, hb⟩ := id hm
  obtain ⟨pa, pn, pc, rfl⟩ := row_slice hp
  obtain ⟨ba, bn, bc, rfl⟩ := row_slice hb
  exact ⟨_, _, _, _, _, _, _, _, _, rfl, hm.mv, hB⟩

set_option maxRecDepth 100000 in
set_option maxHeartbeats 8000000 in
theorem lsame_any (s t u : ByteArray) (hs : s.size ≤ maxLen) (ht : t.size ≤ maxLen) (hu : u.size ≤ maxLen) (w : World) (hG : Glob w) : Calls Tryd.prog 7 #[.string s, .string t, .string u] w (TruePost w) := by
  unfold maxLen at hs ht hu
  have HG := Lib.hid hG
  clear hG
  by_cases h1 : s.size ≤ 300
  · by_cases h2 : t.size ≤ 300
    · by_cases h3 : u.size ≤ 300
      · have y1 : ¬ (300 : Int) < s.size := by omega
        have y2 : ¬ (300 : Int) < t.size := by omega
        have y3 : ¬ (300 : Int) < u.size := by omega
        obtain ⟨D, hD⟩ : ∃ D : List UInt8, D = 32 :: 32 :: s.data.toList := ⟨_, rfl⟩
        have hDl : D.length ≤ 302 := by rw [hD]; simp only [List.length_cons, size_list]; omega
        have hadd : ∀ W, (Op.stringOp .add ⟨#[32, 32]⟩ s).run Tryd.prog W = .ok (.string ⟨D.toArray⟩) W := fun W => by
          have := add_to [32, 32] s.data.toList D (by simp only [List.length_cons, List.length_nil, size_list]; omega) (by rw [hD]; rfl) W
          simpa using this
        have hsz : (⟨D.toArray⟩ : ByteArray).size ≤ 10000000 := by show D.toArray.size ≤ _; simp; omega
        have hsp := Mx.df_sp s ⟨D.toArray⟩ (by simp [hD])
        obtain ⟨d, hd⟩ : ∃ d : ByteArray, d = ⟨D.toArray⟩ := ⟨_, rfl⟩
        rw [← hd] at hadd hsz hsp
        have k1 := Mx.same_refl (Mx.df s).1
        have k2 := Mx.same_symm (Mx.df s).1 (Mx.df t).1
        obtain ⟨X, hX⟩ : ∃ X, X = Mx.same (Mx.df s).1 (Mx.df t).1 := ⟨_, rfl⟩
        obtain ⟨Y, hY⟩ : ∃ Y, Y = Mx.same (Mx.df t).1 (Mx.df u).1 := ⟨_, rfl⟩
        obtain ⟨Z, hZ⟩ : ∃ Z, Z = Mx.same (Mx.df s).1 (Mx.df u).1 := ⟨_, rfl⟩
        have hXYZ : X = true → Y = true → Z = true := by rw [hX, hY, hZ]; exact Mx.same_trans
        rw [← hX] at k2
        have HX := Lib.hid hX
        have HY := Lib.hid hY
        have HZ := Lib.hid hZ
        have HK1 := Lib.hid k1
        have HK2 := Lib.hid k2
        have HSP := Lib.hid hsp
        have HXYZ := Lib.hid hXYZ
        have HSZ := Lib.hid hsz
        clear hD hDl hd hsp k1 k2 hX hY hZ hXYZ hsz
        have LS := Lib.hid (show s.size ≤ 10000000 by omega)
        have LT := Lib.hid (show t.size ≤ 10000000 by omega)
        have LU := Lib.hid (show u.size ≤ 10000000 by omega)
        obtain ⟨ra, hra⟩ : ∃ r, r = Mx.df s := ⟨_, rfl⟩
        obtain ⟨rb, hrb⟩ : ∃ r, r = Mx.df t := ⟨_, rfl⟩
        obtain ⟨rc, hrc⟩ : ∃ r, r = Mx.df u := ⟨_, rfl⟩
        obtain ⟨rd, hrd⟩ : ∃ r, r = Mx.df d := ⟨_, rfl⟩
        have da := fun w' h => ldef_mv s LS.out w' h
        have db := fun w' h => ldef_mv t LT.out w' h
        have dc := fun w' h => ldef_mv u LU.out w' h
        have dd := fun w' h => ldef_mv d HSZ.out w' h
        rw [← hra] at da HX HZ HK1 HK2 HSP
        rw [← hrb] at db HX HY HK2
        rw [← hrc] at dc HY HZ
        rw [← hrd] at dd HSP
        clear hra hrb hrc hrd h1 h2 h3 hs ht hu
        go_enter Tryd.func7, Tryd.ntmps7
        go_wp2_with fail
        refine (awake_any _ HG.out).mono ?_
        rintro e w0 ⟨rfl, hB0⟩
        go_wp2_with fail
        refine (da _ (HG.out.later hB0)).mono ?_
        rintro e w1 ⟨n1, f1, p1, q1, r1, v1, b1, c1, d1, rfl, m1, hB10⟩
        replace hB10 := Below.then hB0 hB10
        have hB1 := hB10.alloc hB10.size (.cells #[.string n1, .bool f1, .slice p1 q1 r1, .bool v1, .slice b1 c1 d1] 26)
        have hA1 : Below w1.heap.size w1 (w1.alloc (.cells #[.string n1, .bool f1, .slice p1 q1 r1, .bool v1, .slice b1 c1 d1] 26)) := (Below.refl _ _).alloc (Nat.le_refl _) _
        have k1 := heap_alloc_new w1 (.cells #[.string n1, .bool f1, .slice p1 q1 r1, .bool v1, .slice b1 c1 d1] 26)
        replace m1 := m1.below hA1
        clear hA1 hB10 hB0
        go_wp2_with fail
        refine (db _ (HG.out.later hB1)).mono ?_
        rintro e w2 ⟨n2, f2, p2, q2, r2, v2, b2, c2, d2, rfl, m2, hB20⟩
        replace k1 := (hB20.block _ (lt_of_block k1)).trans k1
        replace m1 := m1.below hB20
        replace hB20 := Below.then hB1 hB20
        have hB2 := hB20.alloc hB20.size (.cells #[.string n2, .bool f2, .slice p2 q2 r2, .bool v2, .slice b2 c2 d2] 26)
        have hA2 : Below w2.heap.size w2 (w2.alloc (.cells #[.string n2, .bool f2, .slice p2 q2 r2, .bool v2, .slice b2 c2 d2] 26)) := (Below.refl _ _).alloc (Nat.le_refl _) _
        replace k1 := (hA2.block _ (lt_of_block k1)).trans k1
        replace m1 := m1.below hA2
        have k2 := heap_alloc_new w2 (.cells #[.string n2, .bool f2, .slice p2 q2 r2, .bool v2, .slice b2 c2 d2] 26)
        replace m2 := m2.below hA2
        clear hA2 hB20 hB1
        go_wp2_with fail
        refine (dc _ (HG.out.later hB2)).mono ?_
        rintro e w3 ⟨n3, f3, p3, q3, r3, v3, b3, c3, d3, rfl, m3, hB30⟩
        replace k1 := (hB30.block _ (lt_of_block k1)).trans k1
        replace m1 := m1.below hB30
        replace k2 := (hB30.block _ (lt_of_block k2)).trans k2
        replace m2 := m2.below hB30
        replace hB30 := Below.then hB2 hB30
        have hB3 := hB30.alloc hB30.size (.cells #[.string n3, .bool f3, .slice p3 q3 r3, .bool v3, .slice b3 c3 d3] 26)
        have hA3 : Below w3.heap.size w3 (w3.alloc (.cells #[.string n3, .bool f3, .slice p3 q3 r3, .bool v3, .slice b3 c3 d3] 26)) := (Below.refl _ _).alloc (Nat.le_refl _) _
        replace k1 := (hA3.block _ (lt_of_block k1)).trans k1
        replace m1 := m1.below hA3
        replace k2 := (hA3.block _ (lt_of_block k2)).trans k2
        replace m2 := m2.below hA3
        have k3 := heap_alloc_new w3 (.cells #[.string n3, .bool f3, .slice p3 q3 r3, .bool v3, .slice b3 c3 d3] 26)
        replace m3 := m3.below hA3
        clear hA3 hB30 hB2
        go_wp2_with fail
        refine (dd _ (HG.out.later hB3)).mono ?_
        rintro e w4 ⟨n4, f4, p4, q4, r4, v4, b4, c4, d4, rfl, m4, hB40⟩
        replace k1 := (hB40.block _ (lt_of_block k1)).trans k1
        replace m1 := m1.below hB40
        replace k2 := (hB40.block _ (lt_of_block k2)).trans k2
        replace m2 := m2.below hB40
        replace k3 := (hB40.block _ (lt_of_block k3)).trans k3
        replace m3 := m3.below hB40
        replace hB40 := Below.then hB3 hB40
        have hB4 := hB40.alloc hB40.size (.cells #[.string n4, .bool f4, .slice p4 q4 r4, .bool v4, .slice b4 c4 d4] 26)
        have hA4 : Below w4.heap.size w4 (w4.alloc (.cells #[.string n4, .bool f4, .slice p4 q4 r4, .bool v4, .slice b4 c4 d4] 26)) := (Below.refl _ _).alloc (Nat.le_refl _) _
        replace k1 := (hA4.block _ (lt_of_block k1)).trans k1
        replace m1 := m1.below hA4
        replace k2 := (hA4.block _ (lt_of_block k2)).trans k2
        replace m2 := m2.below hA4
        replace k3 := (hA4.block _ (lt_of_block k3)).trans k3
        replace m3 := m3.below hA4
        have k4 := heap_alloc_new w4 (.cells #[.string n4, .bool f4, .slice p4 q4 r4, .bool v4, .slice b4 c4 d4] 26)
        replace m4 := m4.below hA4
        clear hA4 hB40 hB3
        obtain ⟨x10, x11, x12, x13, x14⟩ := box_cells k1
        go_wp2_with fail
        clear x10 x11 x12 x13 x14
        refine (msame_any (.agg #[.string n1, .bool f1, .slice p1 q1 r1, .bool v1, .slice b1 c1 d1]) (.agg #[.string n1, .bool f1, .slice p1 q1 r1, .bool v1, .slice b1 c1 d1]) ra.1 ra.1 _ m1 m1).mono ?_
        rw [HK1.out]
        rintro e V0 ⟨rfl, hC0⟩
        replace k1 := (hC0.block _ (lt_of_block k1)).trans k1
        replace m1 := m1.below hC0
        replace k2 := (hC0.block _ (lt_of_block k2)).trans k2
        replace m2 := m2.below hC0
        replace k3 := (hC0.block _ (lt_of_block k3)).trans k3
        replace m3 := m3.below hC0
        replace k4 := (hC0.block _ (lt_of_block k4)).trans k4
        replace m4 := m4.below hC0
        have hD0 := Below.then hB4 hC0
        clear hB4 hC0
        obtain ⟨x10, x11, x12, x13, x14⟩ := box_cells k1
        obtain ⟨x20, x21, x22, x23, x24⟩ := box_cells k2
        go_wp2_with fail
        clear x10 x11 x12 x13 x14 x20 x21 x22 x23 x24
        refine (msame_any (.agg #[.string n1, .bool f1, .slice p1 q1 r1, .bool v1, .slice b1 c1 d1]) (.agg #[.string n2, .bool f2, .slice p2 q2 r2, .bool v2, .slice b2 c2 d2]) ra.1 rb.1 _ m1 m2).mono ?_
        rw [HX.out.symm]
        rintro e V1 ⟨rfl, hC1⟩
        replace k1 := (hC1.block _ (lt_of_block k1)).trans k1
        replace m1 := m1.below hC1
        replace k2 := (hC1.block _ (lt_of_block k2)).trans k2
        replace m2 := m2.below hC1
        replace k3 := (hC1.block _ (lt_of_block k3)).trans k3
        replace m3 := m3.below hC1
        replace k4 := (hC1.block _ (lt_of_block k4)).trans k4
        replace m4 := m4.below hC1
        have hD1 := Below.then hD0 hC1
        clear hD0 hC1
        obtain ⟨x10, x11, x12, x13, x14⟩ := box_cells k1
        obtain ⟨x20, x21, x22, x23, x24⟩ := box_cells k2
        go_wp2_with fail
        clear x10 x11 x12 x13 x14 x20 x21 x22 x23 x24
        refine (msame_any (.agg #[.string n2, .bool f2, .slice p2 q2 r2, .bool v2, .slice b2 c2 d2]) (.agg #[.string n1, .bool f1, .slice p1 q1 r1, .bool v1, .slice b1 c1 d1]) rb.1 ra.1 _ m2 m1).mono ?_
        rw [HK2.out]
        rintro e V2 ⟨rfl, hC2⟩
        replace k1 := (hC2.block _ (lt_of_block k1)).trans k1
        replace m1 := m1.below hC2
        replace k2 := (hC2.block _ (lt_of_block k2)).trans k2
        replace m2 := m2.below hC2
        replace k3 := (hC2.block _ (lt_of_block k3)).trans k3
        replace m3 := m3.below hC2
        replace k4 := (hC2.block _ (lt_of_block k4)).trans k4
        replace m4 := m4.below hC2
        have hD2 := Below.then hD1 hC2
        clear hD1 hC2
        obtain ⟨x20, x21, x22, x23, x24⟩ := box_cells k2
        obtain ⟨x30, x31, x32, x33, x34⟩ := box_cells k3
        go_wp2_with fail
        clear x20 x21 x22 x23 x24 x30 x31 x32 x33 x34
        refine (msame_any (.agg #[.string n2, .bool f2, .slice p2 q2 r2, .bool v2, .slice b2 c2 d2]) (.agg #[.string n3, .bool f3, .slice p3 q3 r3, .bool v3, .slice b3 c3 d3]) rb.1 rc.1 _ m2 m3).mono ?_
        rw [HY.out.symm]
        rintro e V3 ⟨rfl, hC3⟩
        replace k1 := (hC3.block _ (lt_of_block k1)).trans k1
        replace m1 := m1.below hC3
        replace k2 := (hC3.block _ (lt_of_block k2)).trans k2
        replace m2 := m2.below hC3
        replace k3 := (hC3.block _ (lt_of_block k3)).trans k3
        replace m3 := m3.below hC3
        replace k4 := (hC3.block _ (lt_of_block k4)).trans k4
        replace m4 := m4.below hC3
        have hD3 := Below.then hD2 hC3
        clear hD2 hC3
        obtain ⟨x10, x11, x12, x13, x14⟩ := box_cells k1
        obtain ⟨x30, x31, x32, x33, x34⟩ := box_cells k3
        go_wp2_with fail
        clear x10 x11 x12 x13 x14 x30 x31 x32 x33 x34
        refine (msame_any (.agg #[.string n1, .bool f1, .slice p1 q1 r1, .bool v1, .slice b1 c1 d1]) (.agg #[.string n3, .bool f3, .slice p3 q3 r3, .bool v3, .slice b3 c3 d3]) ra.1 rc.1 _ m1 m3).mono ?_
        rw [HZ.out.symm]
        rintro e V4 ⟨rfl, hC4⟩
        replace k1 := (hC4.block _ (lt_of_block k1)).trans k1
        replace m1 := m1.below hC4
        replace k2 := (hC4.block _ (lt_of_block k2)).trans k2
        replace m2 := m2.below hC4
        replace k3 := (hC4.block _ (lt_of_block k3)).trans k3
        replace m3 := m3.below hC4
        replace k4 := (hC4.block _ (lt_of_block k4)).trans k4
        replace m4 := m4.below hC4
        have hD4 := Below.then hD3 hC4
        clear hD3 hC4
        obtain ⟨x10, x11, x12, x13, x14⟩ := box_cells k1
        obtain ⟨x40, x41, x42, x43, x44⟩ := box_cells k4
        go_wp2_with fail
        clear x10 x11 x12 x13 x14 x40 x41 x42 x43 x44
        refine (msame_any (.agg #[.string n1, .bool f1, .slice p1 q1 r1, .bool v1, .slice b1 c1 d1]) (.agg #[.string n4, .bool f4, .slice p4 q4 r4, .bool v4, .slice b4 c4 d4]) ra.1 rd.1 _ m1 m4).mono ?_
        rw [HSP.out.2]
        rintro e V5 ⟨rfl, hC5⟩
        replace k1 := (hC5.block _ (lt_of_block k1)).trans k1
        replace m1 := m1.below hC5
        replace k2 := (hC5.block _ (lt_of_block k2)).trans k2
        replace m2 := m2.below hC5
        replace k3 := (hC5.block _ (lt_of_block k3)).trans k3
        replace m3 := m3.below hC5
        replace k4 := (hC5.block _ (lt_of_block k4)).trans k4
        replace m4 := m4.below hC5
        have hD5 := Below.then hD4 hC5
        clear hD4 hC5
        clear k1 k2 k3 k4 m1 m2 m3 m4
        go_wp2_with fail
        refine (da _ (HG.out.later hD5)).mono ?_
        rintro e w5 ⟨n5, f5, p5, q5, r5, v5, b5, c5, d5, rfl, m5, hB50⟩
        have hB5 := Below.then hD5 hB50
        clear m5 hB50 hD5
        have he : rd.2 = ra.2 := HSP.out.1
        have hxyz := HXYZ.out
        rw [he]
        clear he
        cases X
        · go_wp2_with fail
          go_ret
          exact ⟨rfl, hB5.alloc hB5.size _⟩
        · cases Y
          · go_wp2_with fail
            go_ret
            exact ⟨rfl, hB5.alloc hB5.size _⟩
          · obtain rfl := hxyz rfl rfl
            go_wp2_with fail
            go_ret
            exact ⟨rfl, hB5.alloc hB5.size _⟩
      · have y1 : ¬ (300 : Int) < s.size := by omega
        have y2 : ¬ (300 : Int) < t.size := by omega
        have y3 : (300 : Int) < u.size := by omega
        go_enter Tryd.func7, Tryd.ntmps7
        go_wp2_with fail
        refine (awake_any _ HG.out).mono ?_
        rintro e w0 ⟨rfl, hB0⟩
        go_wp2_with fail
        go_ret
        exact ⟨rfl, hB0⟩
    · have y1 : ¬ (300 : Int) < s.size := by omega
      have y2 : (300 : Int) < t.size := by omega
      go_enter Tryd.func7, Tryd.ntmps7
      go_wp2_with fail
      refine (awake_any _ HG.out).mono ?_
      rintro e w0 ⟨rfl, hB0⟩
      go_wp2_with fail
      go_ret
      exact ⟨rfl, hB0⟩
  · have y1 : (300 : Int) < s.size := by omega
    go_enter Tryd.func7, Tryd.ntmps7
    go_wp2_with fail
    refine (awake_any _ HG.out).mono ?_
    rintro e w0 ⟨rfl, hB0⟩
    go_wp2_with fail
    go_ret
    exact ⟨rfl, hB0⟩
end Go.Proofs.YtfjbmenakcnadaaDoor
