/- What is proved: what one of the statements' ops comes to. -/
import Derived.Test.YthhcahojbgcihaaWd
namespace Go.Proofs.Ythhcahojbgcihaa
open Go.RowKit Bd

def inI64 (c : Int) : Prop := -9223372036854775808 ≤ c ∧ c ≤ 9223372036854775807

theorem pick_quiet {c : Int} {n : Nat} (hc : inI64 c) (h3 : 0 < n) (h4 : n ≤ 1000) (W : World) (k : Nat) :
    Calls Try.prog 27 #[.int .i64 c, .int .i64 (n : Int)] (W.drewN k) fun e w'' => e = .returned (.int .i64 ((pickF c n : Nat) : Int)) ∧ ∃ j, w'' = W.drewN j :=
  (pick_any c n hc.1 hc.2 h3 h4 _).mono fun _ _ ⟨he, hw⟩ => ⟨he, k, hw.symm⟩

/-- An op as it lies in its box. -/
def OpBox (W : World) (b : Nat) (D A Bb C N : Int) (To : Bool) : Prop := W.heap[b]? = some (.cells #[.int .i64 D, .int .i64 A, .int .i64 Bb, .int .i64 C, .int .i64 N, .bool To] 61)

section
variable {W W' : World} {b : Nat} {D A Bb C N : Int} {To : Bool}
theorem OpBox.c0 (h : OpBox W b D A Bb C N To) : W.cell? ⟨b, 0, none⟩ = some (.int .i64 D) := cell_of_row _ _ _ _ _ _ h
theorem OpBox.c1 (h : OpBox W b D A Bb C N To) : W.cell? ⟨b, 1, none⟩ = some (.int .i64 A) := cell_of_row _ _ _ _ _ _ h
theorem OpBox.c2 (h : OpBox W b D A Bb C N To) : W.cell? ⟨b, 2, none⟩ = some (.int .i64 Bb) := cell_of_row _ _ _ _ _ _ h
theorem OpBox.c3 (h : OpBox W b D A Bb C N To) : W.cell? ⟨b, 3, none⟩ = some (.int .i64 C) := cell_of_row _ _ _ _ _ _ h
theorem OpBox.c4 (h : OpBox W b D A Bb C N To) : W.cell? ⟨b, 4, none⟩ = some (.int .i64 N) := cell_of_row _ _ _ _ _ _ h
theorem OpBox.c5 (h : OpBox W b D A Bb C N To) : W.cell? ⟨b, 5, none⟩ = some (.bool To) := cell_of_row _ _ _ _ _ _ h
theorem OpBox.below (h : OpBox W b D A Bb C N To) (hb : Below W.heap.size W W') : OpBox W' b D A Bb C N To := (hb.block b (lt_of_get h)).trans h
end

section
variable {w : World} {B q p m vars : Nat} {sv lv tv : Value} {ds : List Dec} {n : Nat} {X : Nat → Nat} {T : Nat → Value} {G : Nat → (Nat → Bool) → Bool}

theorem OpBox.fr {w' : World} {sv' : Value} {b : Nat} {D A Bb C N : Int} {To : Bool} (h : OpBox w b D A Bb C N To) (hA : Ar w B p m sv vars ds) (F : Fr p m sv w sv' w') : OpBox w' b D A Bb C N To := by
  refine (F.blk b (lt_of_get h) ?_ ?_ ?_).trans h
  · rintro rfl
    have := hA.blk
    unfold OpBox at h
    rw [h] at this
    injection this with this
    injection this with _ e1
    exact absurd e1 (by decide)
  · rintro rfl
    have := hA.map
    unfold OpBox at h
    rw [h] at this
    cases this
  · intro e1
    rcases hA.row.2 with ⟨rfl, _⟩ | ⟨g', cap', cur', rfl, _, hh', _⟩
    · cases e1
    · have : g' = b := by simpa [Value.ownBlock] using e1
      subst this
      unfold OpBox at h
      rw [h] at hh'
      injection hh' with hh'
      injection hh' with _ e2
      exact absurd e2 (by decide)

theorem Tab.below {w w' : World} {B n : Nat} {v : Value} {g : Nat → Bool} (h : Tab w B v n g) (hb : Below w.heap.size w w') : Tab w' B v n g := own_kept h fun k hk _ => hb.block k hk
theorem Tab.mono {w : World} {B B' n : Nat} {v : Value} {g : Nat → Bool} (h : Tab w B v n g) (hb : B' ≤ B) : Tab w B' v n g := by
  refine ⟨h.1, ?_⟩
  rcases h.2 with h0 | ⟨k, cap, cur, hv, hg, r⟩
  · exact .inl h0
  · exact .inr ⟨k, cap, cur, hv, Nat.le_trans hb hg, r⟩
theorem Tab.congr {w : World} {B n : Nat} {v : Value} {g g' : Nat → Bool} (h : Tab w B v n g) (e : ∀ s, g s = g' s) : Tab w B v n g' := by
  have : g = g' := funext e
  subst this
  exact h
theorem Tab.drew' {w : World} {B n : Nat} {v : Value} {g : Nat → Bool} (h : Tab w B v n g) : Tab w.drew B v n g := h
theorem Tab.fr {w' : World} {sv' : Value} {b0 k : Nat} {v : Value} {g : Nat → Bool} (h : Tab w b0 v k g) (hA : Ar w B p m sv vars ds) (F : Fr p m sv w sv' w') : Tab w' b0 v k g := own_fr h hA F (by decide) (by decide)

/-- What an op comes to: nothing; or a condition and its table. -/
def Played (w : World) (B q p m : Nat) (lv tv : Value) (vars : Nat) (ds : List Dec) (n : Nat) (X : Nat → Nat) (T : Nat → Value) (G : Nat → (Nat → Bool) → Bool) (e : Ending) (w' : World) : Prop :=
  Below B w w' ∧
  ((e = .returned (.tuple #[.int .i64 0, .slice none 0 0, .bool false]) ∧ ∃ sv', Wd w' B q p m sv' lv tv vars ds n X T G) ∨
   (∃ r t g ds' sv', e = .returned (.tuple #[.int .i64 ((r : Nat) : Int), t, .bool true]) ∧ Has ds' r g ∧ Tab w' B t (2 ^ vars) (fun s => g (Bd.bits s)) ∧ ds'.length ≤ ds.length + 255 ∧ Wd w' B q p m sv' lv tv vars ds' n X T G))

set_option maxHeartbeats 4000000 in
set_option maxRecDepth 100000 in
theorem play_not (h : Wd w B q p m sv lv tv vars ds n X T G) (A Bb C N : Int) (To : Bool) (hA : inI64 A) (hB : inI64 Bb) (hC : inI64 C) (hfew : ds.length + 256 ≤ 100000) :
    Calls Try.prog 28 #[.pointer (some ⟨q, 0, none⟩), .agg #[.int .i64 2, .int .i64 A, .int .i64 Bb, .int .i64 C, .int .i64 N, .bool To]] w (Played w B q p m lv tv vars ds n X T G) := by
  obtain ⟨bl, cl, bt, ct, rfl, rfl, hbl, hbt⟩ := h.forms
  have n2 := h.two
  have nf := h.few
  have v8 := h.ar.v8
  have hql := lt_of_get h.blk
  have z0 := h.c0
  have z1 := h.c1
  have z2 := h.c2
  have z3 := h.c3
  have hi := pickF_lt A (n := n) (by omega)
  have hj := pickF_lt Bb (n := n) (by omega)
  have hk := pickF_lt C (n := n) (by omega)
  go_enter Try.func28, Try.ntmps28
  go_wp2_with fail
  go_quiet ((go_at_call 27; exact pick_quiet hA (by omega) (by omega) _ _))
  have hbW : Below w.heap.size w ((w.alloc (.cells #[.int .i64 2, .int .i64 A, .int .i64 Bb, .int .i64 C, .int .i64 N, .bool To] 61)).drewN nq) := below_drewN ((Below.refl _ _).alloc (Nat.le_refl _) _) _
  have hOB : OpBox ((w.alloc (.cells #[.int .i64 2, .int .i64 A, .int .i64 Bb, .int .i64 C, .int .i64 N, .bool To] 61)).drewN nq) w.heap.size 2 A Bb C N To := heap_alloc_new _ _
  generalize hob : w.heap.size = ob at hOB ⊢
  have HOB := Lib.hid hob
  clear hob
  generalize ((w.alloc (.cells #[.int .i64 2, .int .i64 A, .int .i64 Bb, .int .i64 C, .int .i64 N, .bool To] 61)).drewN nq) = W1 at hbW hOB ⊢
  clear z0 z1 z2 z3
  have hD1 := h.below hbW
  have z0 := hD1.c0
  have z1 := hD1.c1
  have z2 := hD1.c2
  have z3 := hD1.c3
  have o1 := hOB.c1
  have o2 := hOB.c2
  have o3 := hOB.c3
  go_wp2_with fail
  go_quiet ((go_at_call 27; exact pick_quiet hB (by omega) (by omega) _ _))
  go_wp2_with fail
  have hbW2 : Below w.heap.size w (W1.drewN nq) := below_drewN hbW _
  have hOB2 : OpBox (W1.drewN nq) ob 2 A Bb C N To := hOB
  have hD2 := hD1.drewN nq
  generalize W1.drewN nq = W2 at hbW2 hOB2 hD2 ⊢
  clear z0 z1 z2 z3 o1 o2 o3 hbW hOB hD1
  have z0 := hD2.c0
  have z1 := hD2.c1
  have z2 := hD2.c2
  have z3 := hD2.c3
  have o3 := hOB2.c3
  go_quiet ((go_at_call 27; exact pick_quiet hC (by omega) (by omega) _ _))
  go_wp2_with fail
  have hbW3 : Below w.heap.size w (W2.drewN nq) := below_drewN hbW2 _
  have hOB3 : OpBox (W2.drewN nq) ob 2 A Bb C N To := hOB2
  have hD3 := hD2.drewN nq
  generalize W2.drewN nq = W3 at hbW3 hOB3 hD3 ⊢
  clear z0 z1 z2 z3 o3 hbW2 hOB2 hD2
  refine (same_any vars v8 false _).mono ?_
  rintro e W4 ⟨t0, rfl, hT0, hb4⟩
  have hD4 := hD3.below hb4
  have z1 := hD4.c1
  go_wp2_with fail
  refine (same_any vars v8 true _).mono ?_
  rintro e W5 ⟨t1, rfl, hT1, hb5⟩
  have hD5 := hD4.below hb5
  have hT0' := hT0.below hb5
  have hOB5 := (hOB3.below hb4).below hb5
  have hbW5 : Below w.heap.size w W5 := (hbW3.trans (hb4.mono hbW3.size)).trans (hb5.mono (Nat.le_trans hbW3.size hb4.size))
  have hBw : B ≤ w.heap.size := by have := h.ar.hp; have := lt_of_get h.ar.blk; omega
  have hs4 := hb4.size
  have hs5 := hb5.size
  have hs3 := hbW3.size
  clear z1 hT0
  have z0 := hD5.c0
  have z2 := hD5.c2
  have zl := hD5.lcell hi
  have o0 := hOB5.c0
  go_wp2_with fail
  go_region_held3 (fun w' => w'.cell? ⟨q, 0, none⟩ = some (.pointer (some ⟨p, 0, none⟩)) ∧ w'.cell? ⟨q, 2, none⟩ = some (.slice (some ⟨bl, 0, none⟩) n cl) ∧ w'.cell? ⟨bl, pickF A n, none⟩ = some (.int .i64 (X (pickF A n) : Int))) (first | exact ⟨z0, z2, zl⟩ | exact ⟨hD6.c0, hD6.c2, hD6.lcell hi⟩)
    (first
      | (go_at_call 22; (with_reducible refine (notH hD5.drew.ar (hD5.has _ hi) hfew).mono ?_); rintro e W6 ⟨r, ds', sv', hr, K6, l6, rfl, hA6, F6⟩; have hD6 := hD5.drew.fr hA6 F6 K6))
  clear z0 z2 zl o0
  have z3 := hD6.c3
  have zt := hD6.tcell hi
  have hB6 : Below B w W6 := ((hbW5.mono hBw).drew.trans (F6.base hD5.drew.ar))
  have U0 := Lib.hid ((hT0'.drew').fr hD5.drew.ar F6)
  have U1 := Lib.hid ((hT1.drew').fr hD5.drew.ar F6)
  have hp8 := pow8 v8
  have hp0 := Nat.two_pow_pos vars
  go_wp2_with fail
  refine (iteT (2 ^ vars) hp0 hp8 _ (hD6.tab _ hi) U0.out U1.out).mono ?_
  rintro e W7 ⟨t, rfl, hT, hb7⟩
  have hD7 := hD6.below hb7
  clear z3 zt
  go_wp2_with fail
  go_ret3
  have hsz := hB6.size
  refine ⟨hB6.trans (hb7.mono (by omega)), .inr ⟨r, t, _, ds', sv', rfl, hr, (hT.mono (by omega)).congr fun s => ?_, l6, hD7⟩⟩
  cases G (pickF A n) (Bd.bits s) <;> rfl
end
end Go.Proofs.Ythhcahojbgcihaa
