/- What is proved: what one of the statements' ops comes to. -/
import Derived.Test.YthhcahojbgcihaaPl
namespace Go.Proofs.Ythhcahojbgcihaa
open Go.RowKit Bd
section
variable {w : World} {B q p m vars : Nat} {sv lv tv : Value} {ds : List Dec} {n : Nat} {X : Nat → Nat} {T : Nat → Value} {G : Nat → (Nat → Bool) → Bool}

set_option maxHeartbeats 4000000 in
set_option maxRecDepth 100000 in
theorem play_var_no (h : Wd w B q p m sv lv tv vars ds n X T G) (A Bb C N : Int) (To : Bool) (hA : inI64 A) (hB : inI64 Bb) (hC : inI64 C) (hN : ¬ (0 ≤ N ∧ N < vars)) :
    Calls Try.prog 28 #[.pointer (some ⟨q, 0, none⟩), .agg #[.int .i64 1, .int .i64 A, .int .i64 Bb, .int .i64 C, .int .i64 N, .bool To]] w (Played w B q p m lv tv vars ds n X T G) := by
  obtain ⟨bl, cl, bt, ct, rfl, rfl, hbl, hbt⟩ := h.forms
  have n2 := h.two
  have nf := h.few
  have v8 := h.ar.v8
  have hql := lt_of_get h.blk
  have z0 := h.c0
  have z1 := h.c1
  have z2 := h.c2
  have z3 := h.c3
  have hi := pickF_lt A (n := n) (by omega)
  have hj := pickF_lt Bb (n := n) (by omega)
  have hk := pickF_lt C (n := n) (by omega)
  go_enter Try.func28, Try.ntmps28
  go_wp2_with fail
  go_quiet ((go_at_call 27; exact pick_quiet hA (by omega) (by omega) _ _))
  have hbW : Below w.heap.size w ((w.alloc (.cells #[.int .i64 1, .int .i64 A, .int .i64 Bb, .int .i64 C, .int .i64 N, .bool To] 61)).drewN nq) := below_drewN ((Below.refl _ _).alloc (Nat.le_refl _) _) _
  have hOB : OpBox ((w.alloc (.cells #[.int .i64 1, .int .i64 A, .int .i64 Bb, .int .i64 C, .int .i64 N, .bool To] 61)).drewN nq) w.heap.size 1 A Bb C N To := heap_alloc_new _ _
  generalize hob : w.heap.size = ob at hOB ⊢
  have HOB := Lib.hid hob
  clear hob
  generalize ((w.alloc (.cells #[.int .i64 1, .int .i64 A, .int .i64 Bb, .int .i64 C, .int .i64 N, .bool To] 61)).drewN nq) = W1 at hbW hOB ⊢
  clear z0 z1 z2 z3
  have hD1 := h.below hbW
  have z0 := hD1.c0
  have z1 := hD1.c1
  have z2 := hD1.c2
  have z3 := hD1.c3
  have o1 := hOB.c1
  have o2 := hOB.c2
  have o3 := hOB.c3
  go_wp2_with fail
  go_quiet ((go_at_call 27; exact pick_quiet hB (by omega) (by omega) _ _))
  go_wp2_with fail
  have hbW2 : Below w.heap.size w (W1.drewN nq) := below_drewN hbW _
  have hOB2 : OpBox (W1.drewN nq) ob 1 A Bb C N To := hOB
  have hD2 := hD1.drewN nq
  generalize W1.drewN nq = W2 at hbW2 hOB2 hD2 ⊢
  clear z0 z1 z2 z3 o1 o2 o3 hbW hOB hD1
  have z0 := hD2.c0
  have z1 := hD2.c1
  have z2 := hD2.c2
  have z3 := hD2.c3
  have o3 := hOB2.c3
  go_quiet ((go_at_call 27; exact pick_quiet hC (by omega) (by omega) _ _))
  go_wp2_with fail
  have hbW3 : Below w.heap.size w (W2.drewN nq) := below_drewN hbW2 _
  have hOB3 : OpBox (W2.drewN nq) ob 1 A Bb C N To := hOB2
  have hD3 := hD2.drewN nq
  generalize W2.drewN nq = W3 at hbW3 hOB3 hD3 ⊢
  clear z0 z1 z2 z3 o3 hbW2 hOB2 hD2
  refine (same_any vars v8 false _).mono ?_
  rintro e W4 ⟨t0, rfl, hT0, hb4⟩
  have hD4 := hD3.below hb4
  have z1 := hD4.c1
  go_wp2_with fail
  refine (same_any vars v8 true _).mono ?_
  rintro e W5 ⟨t1, rfl, hT1, hb5⟩
  have hD5 := hD4.below hb5
  have hT0' := hT0.below hb5
  have hOB5 := (hOB3.below hb4).below hb5
  have hbW5 : Below w.heap.size w W5 := (hbW3.trans (hb4.mono hbW3.size)).trans (hb5.mono (Nat.le_trans hbW3.size hb4.size))
  have hBw : B ≤ w.heap.size := by have := h.ar.hp; have := lt_of_get h.ar.blk; omega
  have hs4 := hb4.size
  have hs5 := hb5.size
  have hs3 := hbW3.size
  clear z1 hT0
  have z1 := hD5.c1
  have o0 := hOB5.c0
  have o4 := hOB5.c4
  by_cases hneg : N < 0
  · have g0 : decide (N < 0) = true := by simp; omega
    go_wp2_with fail
    go_quiet (fail)
    go_wp2_with fail
    go_ret3
    exact ⟨below_drewN (hbW5.mono hBw) _, .inl ⟨rfl, sv, hD5.drewN _⟩⟩
  · have g0 : decide (N < 0) = false := by simp; omega
    have g1 : decide ((vars : Int) ≤ N) = true := by simp; omega
    go_wp2_with fail
    go_quiet (fail)
    go_wp2_with fail
    go_ret3
    exact ⟨below_drewN (hbW5.mono hBw) _, .inl ⟨rfl, sv, hD5.drewN _⟩⟩

set_option maxHeartbeats 4000000 in
set_option maxRecDepth 100000 in
theorem play_restrict_no (h : Wd w B q p m sv lv tv vars ds n X T G) (A Bb C N : Int) (To : Bool) (hA : inI64 A) (hB : inI64 Bb) (hC : inI64 C) (hN : ¬ (0 ≤ N ∧ N < vars)) :
    Calls Try.prog 28 #[.pointer (some ⟨q, 0, none⟩), .agg #[.int .i64 7, .int .i64 A, .int .i64 Bb, .int .i64 C, .int .i64 N, .bool To]] w (Played w B q p m lv tv vars ds n X T G) := by
  obtain ⟨bl, cl, bt, ct, rfl, rfl, hbl, hbt⟩ := h.forms
  have n2 := h.two
  have nf := h.few
  have v8 := h.ar.v8
  have hql := lt_of_get h.blk
  have z0 := h.c0
  have z1 := h.c1
  have z2 := h.c2
  have z3 := h.c3
  have hi := pickF_lt A (n := n) (by omega)
  have hj := pickF_lt Bb (n := n) (by omega)
  have hk := pickF_lt C (n := n) (by omega)
  go_enter Try.func28, Try.ntmps28
  go_wp2_with fail
  go_quiet ((go_at_call 27; exact pick_quiet hA (by omega) (by omega) _ _))
  have hbW : Below w.heap.size w ((w.alloc (.cells #[.int .i64 7, .int .i64 A, .int .i64 Bb, .int .i64 C, .int .i64 N, .bool To] 61)).drewN nq) := below_drewN ((Below.refl _ _).alloc (Nat.le_refl _) _) _
  have hOB : OpBox ((w.alloc (.cells #[.int .i64 7, .int .i64 A, .int .i64 Bb, .int .i64 C, .int .i64 N, .bool To] 61)).drewN nq) w.heap.size 7 A Bb C N To := heap_alloc_new _ _
  generalize hob : w.heap.size = ob at hOB ⊢
  have HOB := Lib.hid hob
  clear hob
  generalize ((w.alloc (.cells #[.int .i64 7, .int .i64 A, .int .i64 Bb, .int .i64 C, .int .i64 N, .bool To] 61)).drewN nq) = W1 at hbW hOB ⊢
  clear z0 z1 z2 z3
  have hD1 := h.below hbW
  have z0 := hD1.c0
  have z1 := hD1.c1
  have z2 := hD1.c2
  have z3 := hD1.c3
  have o1 := hOB.c1
  have o2 := hOB.c2
  have o3 := hOB.c3
  go_wp2_with fail
  go_quiet ((go_at_call 27; exact pick_quiet hB (by omega) (by omega) _ _))
  go_wp2_with fail
  have hbW2 : Below w.heap.size w (W1.drewN nq) := below_drewN hbW _
  have hOB2 : OpBox (W1.drewN nq) ob 7 A Bb C N To := hOB
  have hD2 := hD1.drewN nq
  generalize W1.drewN nq = W2 at hbW2 hOB2 hD2 ⊢
  clear z0 z1 z2 z3 o1 o2 o3 hbW hOB hD1
  have z0 := hD2.c0
  have z1 := hD2.c1
  have z2 := hD2.c2
  have z3 := hD2.c3
  have o3 := hOB2.c3
  go_quiet ((go_at_call 27; exact pick_quiet hC (by omega) (by omega) _ _))
  go_wp2_with fail
  have hbW3 : Below w.heap.size w (W2.drewN nq) := below_drewN hbW2 _
  have hOB3 : OpBox (W2.drewN nq) ob 7 A Bb C N To := hOB2
  have hD3 := hD2.drewN nq
  generalize W2.drewN nq = W3 at hbW3 hOB3 hD3 ⊢
  clear z0 z1 z2 z3 o3 hbW2 hOB2 hD2
  refine (same_any vars v8 false _).mono ?_
  rintro e W4 ⟨t0, rfl, hT0, hb4⟩
  have hD4 := hD3.below hb4
  have z1 := hD4.c1
  go_wp2_with fail
  refine (same_any vars v8 true _).mono ?_
  rintro e W5 ⟨t1, rfl, hT1, hb5⟩
  have hD5 := hD4.below hb5
  have hT0' := hT0.below hb5
  have hOB5 := (hOB3.below hb4).below hb5
  have hbW5 : Below w.heap.size w W5 := (hbW3.trans (hb4.mono hbW3.size)).trans (hb5.mono (Nat.le_trans hbW3.size hb4.size))
  have hBw : B ≤ w.heap.size := by have := h.ar.hp; have := lt_of_get h.ar.blk; omega
  have hs4 := hb4.size
  have hs5 := hb5.size
  have hs3 := hbW3.size
  clear z1 hT0
  have z1 := hD5.c1
  have o0 := hOB5.c0
  have o4 := hOB5.c4
  by_cases hneg : N < 0
  · have g0 : decide (N < 0) = true := by simp; omega
    go_wp2_with fail
    go_quiet (fail)
    go_wp2_with fail
    go_ret3
    exact ⟨below_drewN (hbW5.mono hBw) _, .inl ⟨rfl, sv, hD5.drewN _⟩⟩
  · have g0 : decide (N < 0) = false := by simp; omega
    have g1 : decide ((vars : Int) ≤ N) = true := by simp; omega
    go_wp2_with fail
    go_quiet (fail)
    go_wp2_with fail
    go_ret3
    exact ⟨below_drewN (hbW5.mono hBw) _, .inl ⟨rfl, sv, hD5.drewN _⟩⟩

set_option maxHeartbeats 4000000 in
set_option maxRecDepth 100000 in
theorem play_none (h : Wd w B q p m sv lv tv vars ds n X T G) (D A Bb C N : Int) (To : Bool) (hA : inI64 A) (hB : inI64 Bb) (hC : inI64 C) (hD : ¬ (1 ≤ D ∧ D ≤ 7)) :
    Calls Try.prog 28 #[.pointer (some ⟨q, 0, none⟩), .agg #[.int .i64 D, .int .i64 A, .int .i64 Bb, .int .i64 C, .int .i64 N, .bool To]] w (Played w B q p m lv tv vars ds n X T G) := by
  obtain ⟨bl, cl, bt, ct, rfl, rfl, hbl, hbt⟩ := h.forms
  have n2 := h.two
  have nf := h.few
  have v8 := h.ar.v8
  have hql := lt_of_get h.blk
  have z0 := h.c0
  have z1 := h.c1
  have z2 := h.c2
  have z3 := h.c3
  have hi := pickF_lt A (n := n) (by omega)
  have hj := pickF_lt Bb (n := n) (by omega)
  have hk := pickF_lt C (n := n) (by omega)
  go_enter Try.func28, Try.ntmps28
  go_wp2_with fail
  go_quiet ((go_at_call 27; exact pick_quiet hA (by omega) (by omega) _ _))
  have hbW : Below w.heap.size w ((w.alloc (.cells #[.int .i64 D, .int .i64 A, .int .i64 Bb, .int .i64 C, .int .i64 N, .bool To] 61)).drewN nq) := below_drewN ((Below.refl _ _).alloc (Nat.le_refl _) _) _
  have hOB : OpBox ((w.alloc (.cells #[.int .i64 D, .int .i64 A, .int .i64 Bb, .int .i64 C, .int .i64 N, .bool To] 61)).drewN nq) w.heap.size D A Bb C N To := heap_alloc_new _ _
  generalize hob : w.heap.size = ob at hOB ⊢
  have HOB := Lib.hid hob
  clear hob
  generalize ((w.alloc (.cells #[.int .i64 D, .int .i64 A, .int .i64 Bb, .int .i64 C, .int .i64 N, .bool To] 61)).drewN nq) = W1 at hbW hOB ⊢
  clear z0 z1 z2 z3
  have hD1 := h.below hbW
  have z0 := hD1.c0
  have z1 := hD1.c1
  have z2 := hD1.c2
  have z3 := hD1.c3
  have o1 := hOB.c1
  have o2 := hOB.c2
  have o3 := hOB.c3
  go_wp2_with fail
  go_quiet ((go_at_call 27; exact pick_quiet hB (by omega) (by omega) _ _))
  go_wp2_with fail
  have hbW2 : Below w.heap.size w (W1.drewN nq) := below_drewN hbW _
  have hOB2 : OpBox (W1.drewN nq) ob D A Bb C N To := hOB
  have hD2 := hD1.drewN nq
  generalize W1.drewN nq = W2 at hbW2 hOB2 hD2 ⊢
  clear z0 z1 z2 z3 o1 o2 o3 hbW hOB hD1
  have z0 := hD2.c0
  have z1 := hD2.c1
  have z2 := hD2.c2
  have z3 := hD2.c3
  have o3 := hOB2.c3
  go_quiet ((go_at_call 27; exact pick_quiet hC (by omega) (by omega) _ _))
  go_wp2_with fail
  have hbW3 : Below w.heap.size w (W2.drewN nq) := below_drewN hbW2 _
  have hOB3 : OpBox (W2.drewN nq) ob D A Bb C N To := hOB2
  have hD3 := hD2.drewN nq
  generalize W2.drewN nq = W3 at hbW3 hOB3 hD3 ⊢
  clear z0 z1 z2 z3 o3 hbW2 hOB2 hD2
  refine (same_any vars v8 false _).mono ?_
  rintro e W4 ⟨t0, rfl, hT0, hb4⟩
  have hD4 := hD3.below hb4
  have z1 := hD4.c1
  go_wp2_with fail
  refine (same_any vars v8 true _).mono ?_
  rintro e W5 ⟨t1, rfl, hT1, hb5⟩
  have hD5 := hD4.below hb5
  have hT0' := hT0.below hb5
  have hOB5 := (hOB3.below hb4).below hb5
  have hbW5 : Below w.heap.size w W5 := (hbW3.trans (hb4.mono hbW3.size)).trans (hb5.mono (Nat.le_trans hbW3.size hb4.size))
  have hBw : B ≤ w.heap.size := by have := h.ar.hp; have := lt_of_get h.ar.blk; omega
  have hs4 := hb4.size
  have hs5 := hb5.size
  have hs3 := hbW3.size
  clear z1 hT0
  have o0 := hOB5.c0
  have d1 : (D == 1) = false := beq_eq_false_iff_ne.2 (by omega)
  have d2 : (D == 2) = false := beq_eq_false_iff_ne.2 (by omega)
  have d3 : (D == 3) = false := beq_eq_false_iff_ne.2 (by omega)
  have d4 : (D == 4) = false := beq_eq_false_iff_ne.2 (by omega)
  have d5 : (D == 5) = false := beq_eq_false_iff_ne.2 (by omega)
  have d6 : (D == 6) = false := beq_eq_false_iff_ne.2 (by omega)
  have d7 : (D == 7) = false := beq_eq_false_iff_ne.2 (by omega)
  go_wp2_with fail
  go_ret3
  exact ⟨hbW5.mono hBw, .inl ⟨rfl, sv, hD5⟩⟩

end
end Go.Proofs.Ythhcahojbgcihaa
