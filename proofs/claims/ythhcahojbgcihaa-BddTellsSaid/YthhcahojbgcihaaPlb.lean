/- What is proved: what one of the statements' ops comes to. -/
import Derived.Test.YthhcahojbgcihaaPl
namespace Go.Proofs.Ythhcahojbgcihaa
open Go.RowKit Bd
section
variable {w : World} {B q p m vars : Nat} {sv lv tv : Value} {ds : List Dec} {n : Nat} {X : Nat → Nat} {T : Nat → Value} {G : Nat → (Nat → Bool) → Bool}

set_option maxHeartbeats 4000000 in
set_option maxRecDepth 100000 in
theorem play_xor (h : Wd w B q p m sv lv tv vars ds n X T G) (A Bb C N : Int) (To : Bool) (hA : inI64 A) (hB : inI64 Bb) (hC : inI64 C) (hfew : ds.length + 256 ≤ 100000) :
    Calls Try.prog 28 #[.pointer (some ⟨q, 0, none⟩), .agg #[.int .i64 5, .int .i64 A, .int .i64 Bb, .int .i64 C, .int .i64 N, .bool To]] w (Played w B q p m lv tv vars ds n X T G) := by
  obtain ⟨bl, cl, bt, ct, rfl, rfl, hbl, hbt⟩ := h.forms
  have n2 := h.two
  have nf := h.few
  have v8 := h.ar.v8
  have hql := lt_of_get h.blk
  have z0 := h.c0
  have z1 := h.c1
  have z2 := h.c2
  have z3 := h.c3
  have hi := pickF_lt A (n := n) (by omega)
  have hj := pickF_lt Bb (n := n) (by omega)
  have hk := pickF_lt C (n := n) (by omega)
  go_enter Try.func28, Try.ntmps28
  go_wp2_with fail
  go_quiet ((go_at_call 27; exact pick_quiet hA (by omega) (by omega) _ _))
  have hbW : Below w.heap.size w ((w.alloc (.cells #[.int .i64 5, .int .i64 A, .int .i64 Bb, .int .i64 C, .int .i64 N, .bool To] 61)).drewN nq) := below_drewN ((Below.refl _ _).alloc (Nat.le_refl _) _) _
  have hOB : OpBox ((w.alloc (.cells #[.int .i64 5, .int .i64 A, .int .i64 Bb, .int .i64 C, .int .i64 N, .bool To] 61)).drewN nq) w.heap.size 5 A Bb C N To := heap_alloc_new _ _
  generalize hob : w.heap.size = ob at hOB ⊢
  have HOB := Lib.hid hob
  clear hob
  generalize ((w.alloc (.cells #[.int .i64 5, .int .i64 A, .int .i64 Bb, .int .i64 C, .int .i64 N, .bool To] 61)).drewN nq) = W1 at hbW hOB ⊢
  clear z0 z1 z2 z3
  have hD1 := h.below hbW
  have z0 := hD1.c0
  have z1 := hD1.c1
  have z2 := hD1.c2
  have z3 := hD1.c3
  have o1 := hOB.c1
  have o2 := hOB.c2
  have o3 := hOB.c3
  go_wp2_with fail
  go_quiet ((go_at_call 27; exact pick_quiet hB (by omega) (by omega) _ _))
  go_wp2_with fail
  have hbW2 : Below w.heap.size w (W1.drewN nq) := below_drewN hbW _
  have hOB2 : OpBox (W1.drewN nq) ob 5 A Bb C N To := hOB
  have hD2 := hD1.drewN nq
  generalize W1.drewN nq = W2 at hbW2 hOB2 hD2 ⊢
  clear z0 z1 z2 z3 o1 o2 o3 hbW hOB hD1
  have z0 := hD2.c0
  have z1 := hD2.c1
  have z2 := hD2.c2
  have z3 := hD2.c3
  have o3 := hOB2.c3
  go_quiet ((go_at_call 27; exact pick_quiet hC (by omega) (by omega) _ _))
  go_wp2_with fail
  have hbW3 : Below w.heap.size w (W2.drewN nq) := below_drewN hbW2 _
  have hOB3 : OpBox (W2.drewN nq) ob 5 A Bb C N To := hOB2
  have hD3 := hD2.drewN nq
  generalize W2.drewN nq = W3 at hbW3 hOB3 hD3 ⊢
  clear z0 z1 z2 z3 o3 hbW2 hOB2 hD2
  refine (same_any vars v8 false _).mono ?_
  rintro e W4 ⟨t0, rfl, hT0, hb4⟩
  have hD4 := hD3.below hb4
  have z1 := hD4.c1
  go_wp2_with fail
  refine (same_any vars v8 true _).mono ?_
  rintro e W5 ⟨t1, rfl, hT1, hb5⟩
  have hD5 := hD4.below hb5
  have hT0' := hT0.below hb5
  have hOB5 := (hOB3.below hb4).below hb5
  have hbW5 : Below w.heap.size w W5 := (hbW3.trans (hb4.mono hbW3.size)).trans (hb5.mono (Nat.le_trans hbW3.size hb4.size))
  have hBw : B ≤ w.heap.size := by have := h.ar.hp; have := lt_of_get h.ar.blk; omega
  have hs4 := hb4.size
  have hs5 := hb5.size
  have hs3 := hbW3.size
  clear z1 hT0
  have z0 := hD5.c0
  have z2 := hD5.c2
  have zli := hD5.lcell hi
  have zlj := hD5.lcell hj
  have o0 := hOB5.c0
  go_wp2_with fail
  go_region_held3 (fun w' => w'.cell? ⟨q, 0, none⟩ = some (.pointer (some ⟨p, 0, none⟩)) ∧ w'.cell? ⟨q, 2, none⟩ = some (.slice (some ⟨bl, 0, none⟩) n cl) ∧ w'.cell? ⟨bl, pickF A n, none⟩ = some (.int .i64 (X (pickF A n) : Int)) ∧ w'.cell? ⟨bl, pickF Bb n, none⟩ = some (.int .i64 (X (pickF Bb n) : Int))) (first | exact ⟨z0, z2, zli, zlj⟩ | exact ⟨hD6.c0, hD6.c2, hD6.lcell hi, hD6.lcell hj⟩)
    (first
      | (go_at_call 25; (with_reducible refine (xorH hD5.drew.ar (hD5.has _ hi) (hD5.has _ hj) hfew).mono ?_); rintro e W6 ⟨r, ds', sv', hr, K6, l6, rfl, hA6, F6⟩; have hD6 := hD5.drew.fr hA6 F6 K6))
  clear z0 z2 zli zlj o0
  have z3 := hD6.c3
  have zti := hD6.tcell hi
  have ztj := hD6.tcell hj
  have hB6 : Below B w W6 := ((hbW5.mono hBw).drew.trans (F6.base hD5.drew.ar))
  have U0 := Lib.hid ((hT0'.drew').fr hD5.drew.ar F6)
  have U1 := Lib.hid ((hT1.drew').fr hD5.drew.ar F6)
  have hp8 := pow8 v8
  have hp0 := Nat.two_pow_pos vars
  go_wp2_with fail
  go_region_held3 (fun w' => w'.cell? ⟨q, 3, none⟩ = some (.slice (some ⟨bt, 0, none⟩) n ct) ∧ w'.cell? ⟨bt, pickF A n, none⟩ = some (T (pickF A n)) ∧ w'.cell? ⟨bt, pickF Bb n, none⟩ = some (T (pickF Bb n))) (first | exact ⟨z3, zti, ztj⟩ | exact ⟨hD7.c3, hD7.tcell hi, hD7.tcell hj⟩ | exact ⟨hD8.c3, hD8.tcell hi, hD8.tcell hj⟩)
    (first
      | (go_at_call 46; (with_reducible refine (iteT (2 ^ vars) hp0 hp8 _ (hD6.drew.tab _ hj) U0.out.drew' U1.out.drew').mono ?_); rintro e W7 ⟨tx, rfl, hTx, hb7⟩; have hD7 := hD6.drew.below hb7)
      | (go_at_call 46; (with_reducible refine (iteT (2 ^ vars) hp0 hp8 _ (hD7.tab _ hi) hTx (hD7.tab _ hj)).mono ?_); rintro e W8 ⟨t, rfl, hT, hb8⟩; have hD8 := hD7.below hb8))
  clear z3 zti ztj
  go_wp2_with fail
  go_ret3
  have hsz := hB6.size
  have hb7' := hb7.size
  have hb8' := hb8.size
  simp at hb7'
  refine ⟨(hB6.drew.trans (hb7.mono (by simp; omega))).trans (hb8.mono (by omega)), .inr ⟨r, t, _, ds', sv', rfl, hr, (hT.mono (by omega)).congr fun s => ?_, l6, hD8⟩⟩
  cases G (pickF A n) (Bd.bits s) <;> cases G (pickF Bb n) (Bd.bits s) <;> rfl

set_option maxHeartbeats 4000000 in
set_option maxRecDepth 100000 in
theorem play_ite (h : Wd w B q p m sv lv tv vars ds n X T G) (A Bb C N : Int) (To : Bool) (hA : inI64 A) (hB : inI64 Bb) (hC : inI64 C) (hfew : ds.length + 256 ≤ 100000) :
    Calls Try.prog 28 #[.pointer (some ⟨q, 0, none⟩), .agg #[.int .i64 6, .int .i64 A, .int .i64 Bb, .int .i64 C, .int .i64 N, .bool To]] w (Played w B q p m lv tv vars ds n X T G) := by
  obtain ⟨bl, cl, bt, ct, rfl, rfl, hbl, hbt⟩ := h.forms
  have n2 := h.two
  have nf := h.few
  have v8 := h.ar.v8
  have hql := lt_of_get h.blk
  have z0 := h.c0
  have z1 := h.c1
  have z2 := h.c2
  have z3 := h.c3
  have hi := pickF_lt A (n := n) (by omega)
  have hj := pickF_lt Bb (n := n) (by omega)
  have hk := pickF_lt C (n := n) (by omega)
  go_enter Try.func28, Try.ntmps28
  go_wp2_with fail
  go_quiet ((go_at_call 27; exact pick_quiet hA (by omega) (by omega) _ _))
  have hbW : Below w.heap.size w ((w.alloc (.cells #[.int .i64 6, .int .i64 A, .int .i64 Bb, .int .i64 C, .int .i64 N, .bool To] 61)).drewN nq) := below_drewN ((Below.refl _ _).alloc (Nat.le_refl _) _) _
  have hOB : OpBox ((w.alloc (.cells #[.int .i64 6, .int .i64 A, .int .i64 Bb, .int .i64 C, .int .i64 N, .bool To] 61)).drewN nq) w.heap.size 6 A Bb C N To := heap_alloc_new _ _
  generalize hob : w.heap.size = ob at hOB ⊢
  have HOB := Lib.hid hob
  clear hob
  generalize ((w.alloc (.cells #[.int .i64 6, .int .i64 A, .int .i64 Bb, .int .i64 C, .int .i64 N, .bool To] 61)).drewN nq) = W1 at hbW hOB ⊢
  clear z0 z1 z2 z3
  have hD1 := h.below hbW
  have z0 := hD1.c0
  have z1 := hD1.c1
  have z2 := hD1.c2
  have z3 := hD1.c3
  have o1 := hOB.c1
  have o2 := hOB.c2
  have o3 := hOB.c3
  go_wp2_with fail
  go_quiet ((go_at_call 27; exact pick_quiet hB (by omega) (by omega) _ _))
  go_wp2_with fail
  have hbW2 : Below w.heap.size w (W1.drewN nq) := below_drewN hbW _
  have hOB2 : OpBox (W1.drewN nq) ob 6 A Bb C N To := hOB
  have hD2 := hD1.drewN nq
  generalize W1.drewN nq = W2 at hbW2 hOB2 hD2 ⊢
  clear z0 z1 z2 z3 o1 o2 o3 hbW hOB hD1
  have z0 := hD2.c0
  have z1 := hD2.c1
  have z2 := hD2.c2
  have z3 := hD2.c3
  have o3 := hOB2.c3
  go_quiet ((go_at_call 27; exact pick_quiet hC (by omega) (by omega) _ _))
  go_wp2_with fail
  have hbW3 : Below w.heap.size w (W2.drewN nq) := below_drewN hbW2 _
  have hOB3 : OpBox (W2.drewN nq) ob 6 A Bb C N To := hOB2
  have hD3 := hD2.drewN nq
  generalize W2.drewN nq = W3 at hbW3 hOB3 hD3 ⊢
  clear z0 z1 z2 z3 o3 hbW2 hOB2 hD2
  refine (same_any vars v8 false _).mono ?_
  rintro e W4 ⟨t0, rfl, hT0, hb4⟩
  have hD4 := hD3.below hb4
  have z1 := hD4.c1
  go_wp2_with fail
  refine (same_any vars v8 true _).mono ?_
  rintro e W5 ⟨t1, rfl, hT1, hb5⟩
  have hD5 := hD4.below hb5
  have hT0' := hT0.below hb5
  have hOB5 := (hOB3.below hb4).below hb5
  have hbW5 : Below w.heap.size w W5 := (hbW3.trans (hb4.mono hbW3.size)).trans (hb5.mono (Nat.le_trans hbW3.size hb4.size))
  have hBw : B ≤ w.heap.size := by have := h.ar.hp; have := lt_of_get h.ar.blk; omega
  have hs4 := hb4.size
  have hs5 := hb5.size
  have hs3 := hbW3.size
  clear z1 hT0
  have z0 := hD5.c0
  have z2 := hD5.c2
  have zli := hD5.lcell hi
  have zlj := hD5.lcell hj
  have zlk := hD5.lcell hk
  have o0 := hOB5.c0
  go_wp2_with fail
  go_region_held3 (fun w' => w'.cell? ⟨q, 0, none⟩ = some (.pointer (some ⟨p, 0, none⟩)) ∧ w'.cell? ⟨q, 2, none⟩ = some (.slice (some ⟨bl, 0, none⟩) n cl) ∧ w'.cell? ⟨bl, pickF A n, none⟩ = some (.int .i64 (X (pickF A n) : Int)) ∧ w'.cell? ⟨bl, pickF Bb n, none⟩ = some (.int .i64 (X (pickF Bb n) : Int)) ∧ w'.cell? ⟨bl, pickF C n, none⟩ = some (.int .i64 (X (pickF C n) : Int))) (first | exact ⟨z0, z2, zli, zlj, zlk⟩ | exact ⟨hD6.c0, hD6.c2, hD6.lcell hi, hD6.lcell hj, hD6.lcell hk⟩)
    (first
      | (go_at_call 26; (with_reducible refine (iteH hD5.drew.ar (hD5.has _ hi) (hD5.has _ hj) (hD5.has _ hk) hfew).mono ?_); rintro e W6 ⟨r, ds', sv', hr, K6, l6, rfl, hA6, F6⟩; have hD6 := hD5.drew.fr hA6 F6 K6))
  clear z0 z2 zli zlj zlk o0
  have z3 := hD6.c3
  have zti := hD6.tcell hi
  have ztj := hD6.tcell hj
  have ztk := hD6.tcell hk
  have hB6 : Below B w W6 := ((hbW5.mono hBw).drew.trans (F6.base hD5.drew.ar))
  have U0 := Lib.hid ((hT0'.drew').fr hD5.drew.ar F6)
  have U1 := Lib.hid ((hT1.drew').fr hD5.drew.ar F6)
  have hp8 := pow8 v8
  have hp0 := Nat.two_pow_pos vars
  go_wp2_with fail
  go_region_held3 (fun w' => w'.cell? ⟨q, 3, none⟩ = some (.slice (some ⟨bt, 0, none⟩) n ct) ∧ w'.cell? ⟨bt, pickF A n, none⟩ = some (T (pickF A n)) ∧ w'.cell? ⟨bt, pickF Bb n, none⟩ = some (T (pickF Bb n)) ∧ w'.cell? ⟨bt, pickF C n, none⟩ = some (T (pickF C n))) (first | exact ⟨z3, zti, ztj, ztk⟩ | exact ⟨hD7.c3, hD7.tcell hi, hD7.tcell hj, hD7.tcell hk⟩)
    (first
      | (go_at_call 46; (with_reducible refine (iteT (2 ^ vars) hp0 hp8 _ (hD6.drew.tab _ hi) (hD6.drew.tab _ hj) (hD6.drew.tab _ hk)).mono ?_); rintro e W7 ⟨t, rfl, hT, hb7⟩; have hD7 := hD6.drew.below hb7))
  clear z3 zti ztj ztk
  go_wp2_with fail
  go_ret3
  have hsz := hB6.size
  have hb7' := hb7.size
  refine ⟨hB6.drew.trans (hb7.mono (by simp; omega)), .inr ⟨r, t, _, ds', sv', rfl, hr, (hT.mono (by simp; omega)).congr fun s => ?_, l6, hD7⟩⟩
  rfl

end
end Go.Proofs.Ythhcahojbgcihaa
