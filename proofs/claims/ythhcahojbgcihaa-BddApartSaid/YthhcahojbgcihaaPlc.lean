/- What is proved: what one of the statements' ops comes to. -/
import Derived.Test.YthhcahojbgcihaaPl
namespace Go.Proofs.Ythhcahojbgcihaa
open Go.RowKit Bd
section
variable {w : World} {B q p m vars : Nat} {sv lv tv : Value} {ds : List Dec} {n : Nat} {X : Nat → Nat} {T : Nat → Value} {G : Nat → (Nat → Bool) → Bool}

set_option maxHeartbeats 4000000 in
set_option maxRecDepth 100000 in
theorem play_var (h : Wd w B q p m sv lv tv vars ds n X T G) (A Bb C : Int) (To : Bool) (hA : inI64 A) (hB : inI64 Bb) (hC : inI64 C) (y : Nat) (hy : y < vars) (hfew : ds.length + 256 ≤ 100000) :
    Calls Try.prog 28 #[.pointer (some ⟨q, 0, none⟩), .agg #[.int .i64 1, .int .i64 A, .int .i64 Bb, .int .i64 C, .int .i64 (y : Int), .bool To]] w (Played w B q p m lv tv vars ds n X T G) := by
  obtain ⟨bl, cl, bt, ct, rfl, rfl, hbl, hbt⟩ := h.forms
  have n2 := h.two
  have nf := h.few
  have v8 := h.ar.v8
  have hql := lt_of_get h.blk
  have z0 := h.c0
  have z1 := h.c1
  have z2 := h.c2
  have z3 := h.c3
  have hi := pickF_lt A (n := n) (by omega)
  have hj := pickF_lt Bb (n := n) (by omega)
  have hk := pickF_lt C (n := n) (by omega)
  go_enter Try.func28, Try.ntmps28
  go_wp2_with fail
  go_quiet ((go_at_call 27; exact pick_quiet hA (by omega) (by omega) _ _))
  have hbW : Below w.heap.size w ((w.alloc (.cells #[.int .i64 1, .int .i64 A, .int .i64 Bb, .int .i64 C, .int .i64 (y : Int), .bool To] 61)).drewN nq) := below_drewN ((Below.refl _ _).alloc (Nat.le_refl _) _) _
  have hOB : OpBox ((w.alloc (.cells #[.int .i64 1, .int .i64 A, .int .i64 Bb, .int .i64 C, .int .i64 (y : Int), .bool To] 61)).drewN nq) w.heap.size 1 A Bb C (y : Int) To := heap_alloc_new _ _
  generalize hob : w.heap.size = ob at hOB ⊢
  have HOB := Lib.hid hob
  clear hob
  generalize ((w.alloc (.cells #[.int .i64 1, .int .i64 A, .int .i64 Bb, .int .i64 C, .int .i64 (y : Int), .bool To] 61)).drewN nq) = W1 at hbW hOB ⊢
  clear z0 z1 z2 z3
  have hD1 := h.below hbW
  have z0 := hD1.c0
  have z1 := hD1.c1
  have z2 := hD1.c2
  have z3 := hD1.c3
  have o1 := hOB.c1
  have o2 := hOB.c2
  have o3 := hOB.c3
  go_wp2_with fail
  go_quiet ((go_at_call 27; exact pick_quiet hB (by omega) (by omega) _ _))
  go_wp2_with fail
  have hbW2 : Below w.heap.size w (W1.drewN nq) := below_drewN hbW _
  have hOB2 : OpBox (W1.drewN nq) ob 1 A Bb C (y : Int) To := hOB
  have hD2 := hD1.drewN nq
  generalize W1.drewN nq = W2 at hbW2 hOB2 hD2 ⊢
  clear z0 z1 z2 z3 o1 o2 o3 hbW hOB hD1
  have z0 := hD2.c0
  have z1 := hD2.c1
  have z2 := hD2.c2
  have z3 := hD2.c3
  have o3 := hOB2.c3
  go_quiet ((go_at_call 27; exact pick_quiet hC (by omega) (by omega) _ _))
  go_wp2_with fail
  have hbW3 : Below w.heap.size w (W2.drewN nq) := below_drewN hbW2 _
  have hOB3 : OpBox (W2.drewN nq) ob 1 A Bb C (y : Int) To := hOB2
  have hD3 := hD2.drewN nq
  generalize W2.drewN nq = W3 at hbW3 hOB3 hD3 ⊢
  clear z0 z1 z2 z3 o3 hbW2 hOB2 hD2
  refine (same_any vars v8 false _).mono ?_
  rintro e W4 ⟨t0, rfl, hT0, hb4⟩
  have hD4 := hD3.below hb4
  have z1 := hD4.c1
  go_wp2_with fail
  refine (same_any vars v8 true _).mono ?_
  rintro e W5 ⟨t1, rfl, hT1, hb5⟩
  have hD5 := hD4.below hb5
  have hT0' := hT0.below hb5
  have hOB5 := (hOB3.below hb4).below hb5
  have hbW5 : Below w.heap.size w W5 := (hbW3.trans (hb4.mono hbW3.size)).trans (hb5.mono (Nat.le_trans hbW3.size hb4.size))
  have hBw : B ≤ w.heap.size := by have := h.ar.hp; have := lt_of_get h.ar.blk; omega
  have hs4 := hb4.size
  have hs5 := hb5.size
  have hs3 := hbW3.size
  clear z1 hT0
  have z0 := hD5.c0
  have z1 := hD5.c1
  have o0 := hOB5.c0
  have o4 := hOB5.c4
  have g0 : decide ((y : Int) < 0) = false := by simp
  have g1 : decide ((vars : Int) ≤ (y : Int)) = false := by simp; omega
  go_wp2_with fail
  go_quiet (fail)
  go_wp2_with fail
  have hD5b := hD5.drewN nq
  have hbW5b : Below w.heap.size w (W5.drewN nq) := below_drewN hbW5 _
  have hOB5b : OpBox (W5.drewN nq) ob 1 A Bb C (y : Int) To := hOB5
  generalize W5.drewN nq = W5b at hD5b hbW5b hOB5b ⊢
  clear z0 z1 o0 o4 g0 g1
  have z0 := hD5b.c0
  have o4 := hOB5b.c4
  go_region_held3 (fun w' => w'.cell? ⟨q, 0, none⟩ = some (.pointer (some ⟨p, 0, none⟩)) ∧ w'.cell? ⟨ob, 4, none⟩ = some (.int .i64 (y : Int))) (first | exact ⟨z0, o4⟩ | exact ⟨hD6.c0, hOB6.c4⟩)
    (first
      | (go_at_call 20; (with_reducible refine (varH hD5b.drew.ar y hy hfew).mono ?_); rintro e W6 ⟨r, ds', sv', hr, K6, l6, rfl, hA6, F6⟩; have hD6 := hD5b.drew.fr hA6 F6 K6; have hOB6 := OpBox.fr (w := W5b.drew) hOB5b hD5b.drew.ar F6))
  clear z0 o4
  have z1 := hD6.c1
  have o4 := hOB6.c4
  have hB6 : Below B w W6 := ((hbW5b.mono hBw).drew.trans (F6.base hD5b.drew.ar))
  have hp8 := pow8 v8
  go_wp2_with fail
  go_region_held3 (fun w' => w'.cell? ⟨q, 1, none⟩ = some (.int .i64 (vars : Int)) ∧ w'.cell? ⟨ob, 4, none⟩ = some (.int .i64 (y : Int))) (first | exact ⟨z1, o4⟩ | exact ⟨hD7.c1, hOB7.c4⟩)
    (first
      | (go_at_call 45; (with_reducible refine (varT vars y v8 hy _).mono ?_); rintro e W7 ⟨t, rfl, hT, hb7⟩; have hD7 := hD6.drew.below hb7; have hOB7 := OpBox.below (W := W6.drew) hOB6 hb7))
  clear z1 o4
  go_wp2_with fail
  go_ret3
  have hsz := hB6.size
  have hb7' := hb7.size
  refine ⟨hB6.drew.trans (hb7.mono (by simp; omega)), .inr ⟨r, t, _, ds', sv', rfl, hr, hT.mono (by simp; omega), l6, hD7⟩⟩

theorem tab_upto {w : World} {B n : Nat} {v : Value} {g g' : Nat → Bool} (h : Tab w B v n g) (e : ∀ s, s < n → g s = g' s) : Tab w B v n g' := by
  have : rowOf g n = rowOf g' n := by
    unfold rowOf
    refine List.map_congr_left fun s hs => ?_
    rw [e s (by simpa using hs)]
  unfold Tab at h ⊢
  rw [← this]
  exact h

set_option maxHeartbeats 4000000 in
set_option maxRecDepth 100000 in
theorem play_restrict (h : Wd w B q p m sv lv tv vars ds n X T G) (A Bb C : Int) (To : Bool) (hA : inI64 A) (hB : inI64 Bb) (hC : inI64 C) (y : Nat) (hy : y < vars) (hfew : ds.length + 256 ≤ 100000) :
    Calls Try.prog 28 #[.pointer (some ⟨q, 0, none⟩), .agg #[.int .i64 7, .int .i64 A, .int .i64 Bb, .int .i64 C, .int .i64 (y : Int), .bool To]] w (Played w B q p m lv tv vars ds n X T G) := by
  obtain ⟨bl, cl, bt, ct, rfl, rfl, hbl, hbt⟩ := h.forms
  have n2 := h.two
  have nf := h.few
  have v8 := h.ar.v8
  have hql := lt_of_get h.blk
  have z0 := h.c0
  have z1 := h.c1
  have z2 := h.c2
  have z3 := h.c3
  have hi := pickF_lt A (n := n) (by omega)
  have hj := pickF_lt Bb (n := n) (by omega)
  have hk := pickF_lt C (n := n) (by omega)
  go_enter Try.func28, Try.ntmps28
  go_wp2_with fail
  go_quiet ((go_at_call 27; exact pick_quiet hA (by omega) (by omega) _ _))
  have hbW : Below w.heap.size w ((w.alloc (.cells #[.int .i64 7, .int .i64 A, .int .i64 Bb, .int .i64 C, .int .i64 (y : Int), .bool To] 61)).drewN nq) := below_drewN ((Below.refl _ _).alloc (Nat.le_refl _) _) _
  have hOB : OpBox ((w.alloc (.cells #[.int .i64 7, .int .i64 A, .int .i64 Bb, .int .i64 C, .int .i64 (y : Int), .bool To] 61)).drewN nq) w.heap.size 7 A Bb C (y : Int) To := heap_alloc_new _ _
  generalize hob : w.heap.size = ob at hOB ⊢
  have HOB := Lib.hid hob
  clear hob
  generalize ((w.alloc (.cells #[.int .i64 7, .int .i64 A, .int .i64 Bb, .int .i64 C, .int .i64 (y : Int), .bool To] 61)).drewN nq) = W1 at hbW hOB ⊢
  clear z0 z1 z2 z3
  have hD1 := h.below hbW
  have z0 := hD1.c0
  have z1 := hD1.c1
  have z2 := hD1.c2
  have z3 := hD1.c3
  have o1 := hOB.c1
  have o2 := hOB.c2
  have o3 := hOB.c3
  go_wp2_with fail
  go_quiet ((go_at_call 27; exact pick_quiet hB (by omega) (by omega) _ _))
  go_wp2_with fail
  have hbW2 : Below w.heap.size w (W1.drewN nq) := below_drewN hbW _
  have hOB2 : OpBox (W1.drewN nq) ob 7 A Bb C (y : Int) To := hOB
  have hD2 := hD1.drewN nq
  generalize W1.drewN nq = W2 at hbW2 hOB2 hD2 ⊢
  clear z0 z1 z2 z3 o1 o2 o3 hbW hOB hD1
  have z0 := hD2.c0
  have z1 := hD2.c1
  have z2 := hD2.c2
  have z3 := hD2.c3
  have o3 := hOB2.c3
  go_quiet ((go_at_call 27; exact pick_quiet hC (by omega) (by omega) _ _))
  go_wp2_with fail
  have hbW3 : Below w.heap.size w (W2.drewN nq) := below_drewN hbW2 _
  have hOB3 : OpBox (W2.drewN nq) ob 7 A Bb C (y : Int) To := hOB2
  have hD3 := hD2.drewN nq
  generalize W2.drewN nq = W3 at hbW3 hOB3 hD3 ⊢
  clear z0 z1 z2 z3 o3 hbW2 hOB2 hD2
  refine (same_any vars v8 false _).mono ?_
  rintro e W4 ⟨t0, rfl, hT0, hb4⟩
  have hD4 := hD3.below hb4
  have z1 := hD4.c1
  go_wp2_with fail
  refine (same_any vars v8 true _).mono ?_
  rintro e W5 ⟨t1, rfl, hT1, hb5⟩
  have hD5 := hD4.below hb5
  have hT0' := hT0.below hb5
  have hOB5 := (hOB3.below hb4).below hb5
  have hbW5 : Below w.heap.size w W5 := (hbW3.trans (hb4.mono hbW3.size)).trans (hb5.mono (Nat.le_trans hbW3.size hb4.size))
  have hBw : B ≤ w.heap.size := by have := h.ar.hp; have := lt_of_get h.ar.blk; omega
  have hs4 := hb4.size
  have hs5 := hb5.size
  have hs3 := hbW3.size
  clear z1 hT0
  have z0 := hD5.c0
  have z1 := hD5.c1
  have o0 := hOB5.c0
  have o4 := hOB5.c4
  have g0 : decide ((y : Int) < 0) = false := by simp
  have g1 : decide ((vars : Int) ≤ (y : Int)) = false := by simp; omega
  go_wp2_with fail
  go_quiet (fail)
  go_wp2_with fail
  have hD5b := hD5.drewN nq
  have hbW5b : Below w.heap.size w (W5.drewN nq) := below_drewN hbW5 _
  have hOB5b : OpBox (W5.drewN nq) ob 7 A Bb C (y : Int) To := hOB5
  generalize W5.drewN nq = W5b at hD5b hbW5b hOB5b ⊢
  clear z0 z1 o0 o4 g0 g1
  have z0 := hD5b.c0
  have z2 := hD5b.c2
  have zl := hD5b.lcell hi
  have o4 := hOB5b.c4
  have o5 := hOB5b.c5
  go_region_held3 (fun w' => w'.cell? ⟨q, 0, none⟩ = some (.pointer (some ⟨p, 0, none⟩)) ∧ w'.cell? ⟨q, 2, none⟩ = some (.slice (some ⟨bl, 0, none⟩) n cl) ∧ w'.cell? ⟨bl, pickF A n, none⟩ = some (.int .i64 (X (pickF A n) : Int)) ∧ w'.cell? ⟨ob, 4, none⟩ = some (.int .i64 (y : Int)) ∧ w'.cell? ⟨ob, 5, none⟩ = some (.bool To)) (first | exact ⟨z0, z2, zl, o4, o5⟩ | exact ⟨hD6.c0, hD6.c2, hD6.lcell hi, hOB6.c4, hOB6.c5⟩)
    (first
      | (go_at_call 21; (with_reducible refine (restrictH hD5b.drew.ar (hD5b.has _ hi) y To hy hfew).mono ?_); rintro e W6 ⟨r, ds', sv', hr, K6, l6, rfl, hA6, F6⟩; have hD6 := hD5b.drew.fr hA6 F6 K6; have hOB6 := OpBox.fr (w := W5b.drew) hOB5b hD5b.drew.ar F6))
  clear z0 z2 zl o4 o5
  have z3 := hD6.c3
  have zt := hD6.tcell hi
  have o4 := hOB6.c4
  have o5 := hOB6.c5
  have hB6 : Below B w W6 := ((hbW5b.mono hBw).drew.trans (F6.base hD5b.drew.ar))
  have hp8 := pow8 v8
  go_wp2_with fail
  go_region_held3 (fun w' => w'.cell? ⟨q, 3, none⟩ = some (.slice (some ⟨bt, 0, none⟩) n ct) ∧ w'.cell? ⟨bt, pickF A n, none⟩ = some (T (pickF A n)) ∧ w'.cell? ⟨ob, 4, none⟩ = some (.int .i64 (y : Int)) ∧ w'.cell? ⟨ob, 5, none⟩ = some (.bool To)) (first | exact ⟨z3, zt, o4, o5⟩ | exact ⟨hD7.c3, hD7.tcell hi, hOB7.c4, hOB7.c5⟩)
    (first
      | (go_at_call 47; (with_reducible refine (restrictT vars y v8 hy To _ (hD6.drew.tab _ hi)).mono ?_); rintro e W7 ⟨t, rfl, hT, hb7⟩; have hD7 := hD6.drew.below hb7; have hOB7 := OpBox.below (W := W6.drew) hOB6 hb7))
  clear z3 zt o4 o5
  go_wp2_with fail
  go_ret3
  have hsz := hB6.size
  have hb7' := hb7.size
  refine ⟨hB6.drew.trans (hb7.mono (by simp; omega)), .inr ⟨r, t, _, ds', sv', rfl, hr, tab_upto (hT.mono (by simp; omega)) fun s hs => ?_, l6, hD7⟩⟩
  rw [withOf_bits To (by omega) (by omega)]

end
end Go.Proofs.Ythhcahojbgcihaa
