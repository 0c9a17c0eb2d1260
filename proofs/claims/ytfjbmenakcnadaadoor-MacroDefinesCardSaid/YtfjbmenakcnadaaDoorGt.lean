/- What is proved: what the document's own Define tells of any tokens. (and what stands with it) -/
import Derived.Test.YtfjbmenakcnadaaDoorGs
import Derived.Test.YtfjbmenakcnadaaDoorGq

/- What is proved: what the document's own Define tells of any tokens. -/
namespace Go.Proofs.YtfjbmenakcnadaaDoor
open Go.RowKit Go.Shelf Go.WideMaps

set_option maxRecDepth 100000 in
set_option maxHeartbeats 4000000 in
theorem rdefine_one (v : Value) (t : K) (w : World) (hv : Ks w v [t]) (hno : Mx.nameOk t = true) :
    Calls Tryd.prog 11 #[v] w (DefPost w (Mx.defi [t])) := by
  obtain ⟨ad, cap, rfl, hc1, hc2, hc3⟩ := id hv
  obtain ⟨res, hres⟩ : ∃ res, res = Mx.defi [t] := ⟨_, rfl⟩
  rw [← hres]
  have hk0 := heap_alloc_new w (.cells #[.string ⟨#[]⟩, .bool false, .slice none 0 0, .bool false, .slice none 0 0] 26)
  replace hk0 := (Below.heap_alloc _ (.cells #[.string ⟨#[]⟩, .bool false, .slice none 0 0, .bool false, .slice none 0 0] 26) _ (lt_of_block hk0)).trans hk0
  have hk1 := heap_alloc_new (w.alloc (.cells #[.string ⟨#[]⟩, .bool false, .slice none 0 0, .bool false, .slice none 0 0] 26)) (.cells #[.string ⟨#[]⟩, .bool false, .slice none 0 0, .bool false, .slice none 0 0] 26)
  simp only [World.size_alloc] at hk1
  have hB2 : Below w.heap.size w ((w.alloc (.cells #[.string ⟨#[]⟩, .bool false, .slice none 0 0, .bool false, .slice none 0 0] 26)).alloc (.cells #[.string ⟨#[]⟩, .bool false, .slice none 0 0, .bool false, .slice none 0 0] 26)) := ((Below.refl _ w).alloc (Nat.le_refl _) _).alloc (by simp) _
  have HK0 := Lib.hid hk0
  have HK1 := Lib.hid hk1
  have HB2 := Lib.hid hB2
  have HRES := Lib.hid hres
  clear hk0 hk1 hB2 hres
  obtain ⟨g, o, rfl, -, -, -, hg, hcs⟩ := hv.cells (by simp)
  obtain ⟨a0, a1, -, -, -, -⟩ := hcs 0 t rfl
  simp only [Nat.zero_mul, Nat.add_zero] at a0 a1
  simp only [List.length_cons, List.length_nil, Nat.zero_add] at hc1
  rw [show [t].length = 1 from rfl]
  clear hv hc3 hcs
  have HC2 := Lib.hid hc2
  clear hc2
  have HNO := Lib.hid hno
  obtain ⟨kind, tx, tf, tfr, ten, tbl⟩ := t
  dsimp only at a0 a1
  simp only [Mx.nameOk, Bool.and_eq_true, beq_iff_eq, Bool.not_eq_true', decide_eq_false_iff_not] at hno
  obtain ⟨rfl, hd, hva⟩ := hno
  have t1 : (tx.toList == [100, 101, 102, 105, 110, 101, 100]) = false := lit_no hd
  have t2 : (tx.toList == [95, 95, 86, 65, 95, 65, 82, 71, 83, 95, 95]) = false := lit_no hva
  clear hd hva
  have HE := Lib.hid (show res = Mx.bodyOf tx false [] false [] by rw [HRES.out, defi_ok HNO.out (show Mx.brack [] = .ok (false, [], false, []) from rfl)])
  have hk2 := heap_alloc_new ((w.alloc (.cells #[.string ⟨#[]⟩, .bool false, .slice none 0 0, .bool false, .slice none 0 0] 26)).alloc (.cells #[.string ⟨#[]⟩, .bool false, .slice none 0 0, .bool false, .slice none 0 0] 26)) (.cells #[.string tx, .bool false, .slice none 0 0, .bool false, .slice none 0 0] 26)
  simp only [World.size_alloc] at hk2
  have hB3 : Below w.heap.size w (((w.alloc (.cells #[.string ⟨#[]⟩, .bool false, .slice none 0 0, .bool false, .slice none 0 0] 26)).alloc (.cells #[.string ⟨#[]⟩, .bool false, .slice none 0 0, .bool false, .slice none 0 0] 26)).alloc (.cells #[.string tx, .bool false, .slice none 0 0, .bool false, .slice none 0 0] 26)) := HB2.out.alloc (by simp; omega) _
  have hRD : RD (((w.alloc (.cells #[.string ⟨#[]⟩, .bool false, .slice none 0 0, .bool false, .slice none 0 0] 26)).alloc (.cells #[.string ⟨#[]⟩, .bool false, .slice none 0 0, .bool false, .slice none 0 0] 26)).alloc (.cells #[.string tx, .bool false, .slice none 0 0, .bool false, .slice none 0 0] 26)) w.heap.size tx false (.slice none 0 0) [] false (.slice none 0 0) :=
    ⟨(Below.heap_alloc _ _ _ (lt_of_block HK0.out)).trans HK0.out, (Below.heap_alloc _ _ _ (lt_of_block HK1.out)).trans HK1.out, hk2, World.ownsRow_nil _ _ _ _⟩
  clear hk2
  obtain ⟨d, rfl⟩ : ∃ d, cap = d + 1 := ⟨cap - 1, by omega⟩
  rcases Decidable.em (d = 0) with rfl | hd0
  all_goals
    go_enter Tryd.func11, Tryd.ntmps11
    go_wp2_with fail
    generalize (((w.alloc (.cells #[.string ⟨#[]⟩, .bool false, .slice none 0 0, .bool false, .slice none 0 0] 26)).alloc (.cells #[.string ⟨#[]⟩, .bool false, .slice none 0 0, .bool false, .slice none 0 0] 26)).alloc (.cells #[.string tx, .bool false, .slice none 0 0, .bool false, .slice none 0 0] 26)) = W3 at hB3 hRD ⊢
    refine (rsign_at _ [] 0 Mx.LP _ ⟨_, _, rfl, Nat.zero_le _, by have := HC2.out; omega, fun i x hx => by simp at hx⟩ (by omega)).mono ?_
    rintro e W4 ⟨rfl, hW⟩
    subst hW
    rw [show isAt [] 0 Mx.LP = false from rfl]
    have HRD := Lib.hid hRD
    have HB3 := Lib.hid hB3
    clear hRD hB3
    go_wp2_with fail
    go_loop [11] (fun i => i = .int .i64 0) (fun i => 0)
    case atStart => rfl
    case round =>
      subst hrel
      go_upto_if 94 with (fail)
      refine wp_cond_false (by rfl) (wp_exit ?_)
      repeat (first
        | exact rdef_paste w W4 tx false false [] _ _ _ [] res 0 _ g _ rfl rfl (by omega) (Nat.zero_le _) (by have := HC2.out; omega) (fun i x hx => by simp at hx) HRD.out (World.ownsRow_nil _ _ _ _) HB3.out HE.out _ _ _ _ _ _ _ _ _ _ _ _ _ _ _ _ _ _ _ _ _ _ _ _ _ _ _ _ _ _ _ _ _ _ _ _ _ _ _ _ _ _ _ _ _ _ _ _ _ _ _ _ _ _ _ _ _ _ _ _ _ _ _ _ _ _ _ _ _ _ _ _ _ _ _ _ _ _ _ _ _ _ _ _ _ _ _ _ _ _ _ _ _ _ _ _ _ _ _ _ _ _ _ _ _ _ _ _ _ _ _ _ _ _ _ _ _ _ _ _ _ _ _ _ _ _ _ _ _ _ _ _ _ _ _ _ _ _ _ _ _ _ _ _ _ _ _ _ _ _ _ _ _ _ _ _ _ _ _ _ _ _ _ _ _ _ _ _ _ _ _ _ _ _ _ _ _ _ _ _ _ _ _ _ _ _ _ _ _ _
        | go_step)

theorem rdefine_any (v : Value) (l : List K) (w : World) (hv : Ks w v l) (hl : l.length * 56 ≤ 140737488355328) :
    Calls Tryd.prog 11 #[v] w (DefPost w (Mx.defi l)) := by
  rcases l with _ | ⟨t, r⟩
  · exact rdefine_nil v w hv
  · cases hno : Mx.nameOk t with
    | false => exact rdefine_bad v t r w hv hl hno
    | true =>
      rcases r with _ | ⟨u, r⟩
      · exact rdefine_one v t w hv hno
      · exact rdefine_two v t u r w hv hl hno
end Go.Proofs.YtfjbmenakcnadaaDoor

/- What is proved: the law's full tells whether two macros are one, bodies token by token. -/
namespace Go.Proofs.YtfjbmenakcnadaaDoor
open Go.RowKit Go.Shelf Go.WideMaps

set_option maxRecDepth 100000 in
set_option maxHeartbeats 4000000 in
theorem full_any (v u : Value) (a : Mx.M) (w : World) (hv : MV w v a) (hu : MV w u a) (hla : a.body.length * 56 ≤ 140737488355328) :
    Calls Tryd.prog 13 #[v, u] w fun e w' => e = .returned (.bool true) ∧ Below w.heap.size w w' := by
  have HV := Lib.hid hv
  have HU := Lib.hid hu
  obtain ⟨pv, bv, rfl, hp, hb⟩ := hv
  obtain ⟨pu, bu, rfl, hq, hc⟩ := hu
  have HLA := Lib.hid hla
  have HB := Lib.hid hb
  have HC := Lib.hid hc
  clear hp hq hb hc hla
  go_enter Tryd.func13, Tryd.ntmps13
  go_wp2_with fail
  refine (rsame_any _ _ a a _ (HV.out.below (((Below.refl _ w).alloc (Nat.le_refl _) _).alloc (by simp) _)) (HU.out.below (((Below.refl _ w).alloc (Nat.le_refl _) _).alloc (by simp) _)) HLA.out HLA.out).mono ?_
  rintro e w1 ⟨rfl, hB1⟩
  rw [Mx.same_refl]
  have hW : Below w.heap.size w w1 := (((Below.refl _ w).alloc (Nat.le_refl _) _).alloc (by simp) _).trans (hB1.mono (by simp; omega))
  have k0 := heap_alloc_new w (.cells #[.string a.name, .bool a.fn, pv, .bool a.va, bv] 26)
  replace k0 := (Below.heap_alloc _ (.cells #[.string a.name, .bool a.fn, pu, .bool a.va, bu] 26) _ (lt_of_block k0)).trans k0
  have k1 := heap_alloc_new (w.alloc (.cells #[.string a.name, .bool a.fn, pv, .bool a.va, bv] 26)) (.cells #[.string a.name, .bool a.fn, pu, .bool a.va, bu] 26)
  simp only [World.size_alloc] at k1
  obtain ⟨-, -, -, -, c04⟩ := box_cells ((hB1.block _ (lt_of_block k0)).trans k0)
  obtain ⟨-, -, -, -, c14⟩ := box_cells ((hB1.block _ (lt_of_block k1)).trans k1)
  clear hB1 k0 k1
  go_wp2_with fail
  refine (ksame_any _ _ a.body _ (HB.out.below hW) (HC.out.below hW) HLA.out).mono ?_
  rintro e w2 ⟨rfl, hB2⟩
  have hW2 := hW.trans (hB2.mono hW.size)
  go_wp2_with fail
  go_ret
  exact ⟨rfl, hW2⟩
end Go.Proofs.YtfjbmenakcnadaaDoor
