/- What is proved: what Same tells of any two macros. -/
import Derived.Test.YtfjbmenakcnadaaDoorN3
namespace Go.Proofs.YtfjbmenakcnadaaDoor
open Go.RowKit Go.Shelf Go.WideMaps

/-- A macro that can be read. -/
def MV (W : World) (v : Value) (m : Mx.M) : Prop :=
  ∃ pv bv, v = .agg #[.string m.name, .bool m.fn, pv, .bool m.va, bv] ∧ Sts W pv m.ps ∧ Ks W bv m.body
theorem Mac.mv {W : World} {base : Nat} {v : Value} {m : Mx.M} (h : Mac W base v m) : MV W v m := by
  obtain ⟨pv, bv, rfl, h1, h2⟩ := h
  exact ⟨pv, bv, rfl, Sts.of_row h1, Ks.of_row h2⟩
theorem MV.below {W W' : World} {v : Value} {m : Mx.M} (h : MV W v m) (hb : Below W.heap.size W W') : MV W' v m := by
  obtain ⟨pv, bv, rfl, h1, h2⟩ := h
  exact ⟨pv, bv, rfl, h1.below hb, h2.below hb⟩

set_option maxRecDepth 100000 in
set_option maxHeartbeats 4000000 in
theorem msame_any (v u : Value) (a b : Mx.M) (w : World) (hv : MV w v a) (hu : MV w u b) :
    Calls Tryd.prog 15 #[v, u] w fun e w' => e = .returned (.bool (Mx.same a b)) ∧ Below w.heap.size w w' := by
  obtain ⟨pv, bv, rfl, hp, hb⟩ := hv
  obtain ⟨pu, bu, rfl, hq, hc⟩ := hu
  obtain ⟨nm, fn, ps, va, body⟩ := a
  obtain ⟨nm', fn', ps', va', body'⟩ := b
  dsimp only at hp hb hq hc ⊢
  obtain ⟨pa, pc, rfl, -⟩ := id hp
  obtain ⟨ba, bc, rfl, -⟩ := id hb
  obtain ⟨qa, qc, rfl, -⟩ := id hq
  obtain ⟨ca, cc, rfl, -⟩ := id hc
  obtain ⟨pn, hpn⟩ : ∃ n, n = ps.length := ⟨_, rfl⟩
  obtain ⟨bn, hbn⟩ : ∃ n, n = body.length := ⟨_, rfl⟩
  obtain ⟨qn, hqn⟩ : ∃ n, n = ps'.length := ⟨_, rfl⟩
  obtain ⟨cn, hcn⟩ : ∃ n, n = body'.length := ⟨_, rfl⟩
  rw [← hpn] at hp ⊢
  rw [← hbn] at hb ⊢
  rw [← hqn] at hq ⊢
  rw [← hcn] at hc ⊢
  obtain ⟨res, hres⟩ : ∃ res, res = Mx.same ⟨nm, fn, ps, va, body⟩ ⟨nm', fn', ps', va', body'⟩ := ⟨_, rfl⟩
  rw [← hres]
  have hB : Below w.heap.size w ((w.alloc (.cells #[.string nm, .bool fn, .slice pa pn pc, .bool va, .slice ba bn bc] 26)).alloc (.cells #[.string nm', .bool fn', .slice qa qn qc, .bool va', .slice ca cn cc] 26)) := ((Below.refl _ w).alloc (Nat.le_refl _) _).alloc (by simp) _
  have HB := Lib.hid hB
  have HP := Lib.hid (hp.below hB)
  have HQ := Lib.hid (hq.below hB)
  have HBd := Lib.hid (hb.below hB)
  have HC := Lib.hid (hc.below hB)
  have HRES := Lib.hid hres
  have k0 := heap_alloc_new w (.cells #[.string nm, .bool fn, .slice pa pn pc, .bool va, .slice ba bn bc] 26)
  replace k0 := (Below.heap_alloc _ (.cells #[.string nm', .bool fn', .slice qa qn qc, .bool va', .slice ca cn cc] 26) _ (lt_of_block k0)).trans k0
  have k1 := heap_alloc_new (w.alloc (.cells #[.string nm, .bool fn, .slice pa pn pc, .bool va, .slice ba bn bc] 26)) (.cells #[.string nm', .bool fn', .slice qa qn qc, .bool va', .slice ca cn cc] 26)
  simp only [World.size_alloc] at k1
  have HK0 := Lib.hid k0
  have HK1 := Lib.hid k1
  clear hp hb hq hc hres hB hpn hbn hqn hcn k0 k1
  by_cases h1 : nm = nm'
  · subst h1
    have t1 : (nm.toList == nm.toList) = true := by simp
    by_cases h2 : fn = fn'
    · subst h2
      by_cases h3 : va = va'
      · subst h3
        by_cases h4 : ps = ps'
        · have HE := Lib.hid (show res = Mx.sameB body body' by rw [HRES.out]; simp [Mx.same, h4])
          have HD := Lib.hid (decide_eq_true h4)
          clear h4
          go_enter Tryd.func15, Tryd.ntmps15
          go_wp2_with fail
          refine (eqs_any _ _ _ _ _ HP.out HQ.out).mono ?_
          rw [show decide (ps = ps') = true from HD.out]
          rintro e W1 ⟨rfl, hB1⟩
          have k0 := (hB1.block _ (lt_of_block HK0.out)).trans HK0.out
          have k1 := (hB1.block _ (lt_of_block HK1.out)).trans HK1.out
          have c0 := (Lib.cell_of_heap k0 4).trans rfl
          have c1 := (Lib.cell_of_heap k1 4).trans rfl
          have hbd := HBd.out.below hB1
          have hcd := HC.out.below hB1
          have hBw := Below.then HB.out hB1
          clear k0 k1 hB1
          go_wp2_with fail
          refine (sameBody_any _ _ _ _ _ hbd hcd).mono ?_
          rintro e W2 ⟨rfl, hB2⟩
          go_wp2_with fail
          go_ret
          exact ⟨by rw [HE.out]; rfl, Below.then hBw hB2⟩
        · have HE := Lib.hid (show res = false by rw [HRES.out]; simp [Mx.same, h4])
          have HD := Lib.hid (decide_eq_false h4)
          clear h4
          go_enter Tryd.func15, Tryd.ntmps15
          go_wp2_with fail
          refine (eqs_any _ _ _ _ _ HP.out HQ.out).mono ?_
          rw [show decide (ps = ps') = false from HD.out]
          rintro e W1 ⟨rfl, hB1⟩
          go_wp2_with fail
          go_ret
          exact ⟨by rw [HE.out]; rfl, Below.then HB.out hB1⟩
      · have HE := Lib.hid (show res = false by rw [HRES.out]; simp [Mx.same, h3])
        cases va <;> cases va'
        all_goals
          first
          | exact absurd rfl h3
          | (clear h3
             go_enter Tryd.func15, Tryd.ntmps15
             go_wp2_with fail
             go_ret
             exact ⟨by rw [HE.out]; rfl, HB.out⟩)
    · have HE := Lib.hid (show res = false by rw [HRES.out]; simp [Mx.same, h2])
      cases fn <;> cases fn'
      all_goals
        first
        | exact absurd rfl h2
        | (clear h2
           go_enter Tryd.func15, Tryd.ntmps15
           go_wp2_with fail
           go_ret
           exact ⟨by rw [HE.out]; rfl, HB.out⟩)
  · have t1 := lit_ne h1
    have HE := Lib.hid (show res = false by rw [HRES.out]; simp [Mx.same, h1])
    clear h1
    go_enter Tryd.func15, Tryd.ntmps15
    go_wp2_with fail
    go_ret
    exact ⟨by rw [HE.out]; rfl, HB.out⟩
end Go.Proofs.YtfjbmenakcnadaaDoor
