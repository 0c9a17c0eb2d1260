/- What is proved: what the calls of package bdd that make conditions come to. -/
import Derived.Test.YthhcahojbgcihaaW4
namespace Go.Proofs.Ythhcahojbgcihaa
open Go.RowKit Bd

/-- What a call comes to that tells a condition which holds where g says, and no error. -/
def Tells (w : World) (B p m : Nat) (sv : Value) (vars : Nat) (ds : List Dec) (g : (Nat → Bool) → Bool) (e : Ending) (w' : World) : Prop :=
  ∃ r ds' sv', Made vars ds ds' r g vars ∧ e = .returned (.tuple #[.int .i64 ((r : Nat) : Int), .int .i64 0]) ∧ Ar w' B p m sv' vars ds' ∧ Fr p m sv w sv' w'

theorem pow8 {v : Nat} (h : v ≤ 8) : 2 ^ v ≤ 256 := Nat.pow_le_pow_right (n := 2) (by omega) h

section
variable {w : World} {B p m vars : Nat} {sv : Value} {ds : List Dec}

theorem Tells.of {w1 w' : World} {e : Ending} {r : Nat} {ds' : List Dec} {g : (Nat → Bool) → Bool} (hb : Below w.heap.size w w1) (M : Made vars ds ds' r g vars) (he : e = .returned (.tuple #[.int .i64 ((r : Nat) : Int), .int .i64 0]))
    (hG : ∃ sv', Ar w' B p m sv' vars ds' ∧ Fr p m sv w1 sv' w') : Tells w B p m sv vars ds g e w' := by
  obtain ⟨sv', hA, F⟩ := hG
  exact ⟨r, ds', sv', M, he, hA, (Fr.of_below hb p m sv).trans F⟩

set_option maxHeartbeats 1000000 in
theorem join_any (f : Nat) (hf : f = 40 ∨ f = 41 ∨ f = 42 ∨ f = 43) (h : Ar w B p m sv vars ds) (x y : Nat) (hx : x < ds.length + 2) (hy : y < ds.length + 2) (hfew : ds.length + 256 ≤ 100000) :
    Calls Try.prog 39 #[.pointer (some ⟨p, 0, none⟩), .int .i64 (x : Int), .int .i64 (y : Int), .func (.func f) #[] #[]] w (Tells w B p m sv vars ds (fun a => opOf f (S ds x a) (S ds y a))) := by
  have hA := h.alloc (.cells #[.int .i64 (x : Int), .int .i64 (y : Int)] 35)
  have hK := knows_yes hA w.heap.size 2 2 _ (by omega) (Nodes.new2 w x y) (fun i _ => by split <;> omega)
  have hC := combine_any f hf vars _ sv ds x y hA hx hy (top_le h.wf hx) (top_le h.wf hy) (Nat.le_refl _) (by have := pow8 h.v8; omega)
  have HK := Lib.hid hK
  have HC := Lib.hid hC
  clear hK hC
  go_enter Try.func39, Try.ntmps39
  go_wp2_with fail
  refine (HK.out).mono ?_
  rintro e w1 ⟨rfl, rfl⟩
  go_wp2_with fail
  refine (HC.out).mono ?_
  rintro e w1 ⟨r, ds', M, rfl, G⟩
  go_wp2_with fail
  go_ret2
  exact Tells.of ((Below.refl _ _).alloc (Nat.le_refl _) _) M rfl G

set_option maxHeartbeats 1000000 in
theorem join_bad (f : Nat) (h : Ar w B p m sv vars ds) (x y : Int) (hxy : x < 0 ∨ y < 0) :
    Calls Try.prog 39 #[.pointer (some ⟨p, 0, none⟩), .int .i64 x, .int .i64 y, .func (.func f) #[] #[]] w fun e w' => e = .returned (.tuple #[.int .i64 0, .int .i64 10]) ∧ Below w.heap.size w w' := by
  have hA := h.alloc (.cells #[.int .i64 x, .int .i64 y] 35)
  have hN : Nodes (w.alloc (.cells #[.int .i64 x, .int .i64 y] 35)) w.heap.size 2 (fun i => if i = 0 then x else y) := by
    refine ⟨by simp, fun i hi => ?_⟩
    have e : (w.alloc (.cells #[.int .i64 x, .int .i64 y] 35)).heap[w.heap.size]? = some (.cells #[.int .i64 x, .int .i64 y] 35) := heap_alloc_new _ _
    rw [cell_of_row _ _ _ _ _ _ e]
    match i, hi with
    | 0, _ => rfl
    | 1, _ => rfl
  have hK : Calls Try.prog 31 #[.pointer (some ⟨p, 0, none⟩), .slice (some ⟨w.heap.size, 0, none⟩) 2 2] (w.alloc (.cells #[.int .i64 x, .int .i64 y] 35)) fun e w' => e = .returned (.bool false) ∧ (w.alloc (.cells #[.int .i64 x, .int .i64 y] 35)) = w' := by
    rcases hxy with h1 | h1
    · exact knows_no hA w.heap.size 2 2 _ (by omega) hN 0 (by omega) h1
    · exact knows_no hA w.heap.size 2 2 _ (by omega) hN 1 (by omega) h1
  have HK := Lib.hid hK
  clear hK
  go_enter Try.func39, Try.ntmps39
  go_wp2_with fail
  refine (HK.out).mono ?_
  rintro e w1 ⟨rfl, rfl⟩
  go_wp2_with fail
  go_ret2
  exact ⟨rfl, (Below.refl _ _).alloc (Nat.le_refl _) _⟩

set_option maxHeartbeats 1000000 in
theorem not_any (h : Ar w B p m sv vars ds) (x : Nat) (hx : x < ds.length + 2) (hfew : ds.length + 256 ≤ 100000) :
    Calls Try.prog 22 #[.pointer (some ⟨p, 0, none⟩), .int .i64 (x : Int)] w (Tells w B p m sv vars ds (fun a => !S ds x a)) := by
  have HC := Lib.hid (join_any 40 (by simp) h x x hx hx hfew)
  go_enter Try.func22, Try.ntmps22
  go_wp2_with fail
  refine (HC.out).mono ?_
  rintro e w1 ⟨r, ds', sv', M, rfl, G⟩
  go_wp2_with fail
  go_ret2
  exact ⟨r, ds', sv', M, rfl, G⟩

set_option maxHeartbeats 1000000 in
theorem and_any (h : Ar w B p m sv vars ds) (x y : Nat) (hx : x < ds.length + 2) (hy : y < ds.length + 2) (hfew : ds.length + 256 ≤ 100000) :
    Calls Try.prog 23 #[.pointer (some ⟨p, 0, none⟩), .int .i64 (x : Int), .int .i64 (y : Int)] w (Tells w B p m sv vars ds (fun a => S ds x a && S ds y a)) := by
  have HC := Lib.hid (join_any 41 (by simp) h x y hx hy hfew)
  go_enter Try.func23, Try.ntmps23
  go_wp2_with fail
  refine (HC.out).mono ?_
  rintro e w1 ⟨r, ds', sv', M, rfl, G⟩
  go_wp2_with fail
  go_ret2
  exact ⟨r, ds', sv', M, rfl, G⟩

set_option maxHeartbeats 1000000 in
theorem or_any (h : Ar w B p m sv vars ds) (x y : Nat) (hx : x < ds.length + 2) (hy : y < ds.length + 2) (hfew : ds.length + 256 ≤ 100000) :
    Calls Try.prog 24 #[.pointer (some ⟨p, 0, none⟩), .int .i64 (x : Int), .int .i64 (y : Int)] w (Tells w B p m sv vars ds (fun a => S ds x a || S ds y a)) := by
  have HC := Lib.hid (join_any 42 (by simp) h x y hx hy hfew)
  go_enter Try.func24, Try.ntmps24
  go_wp2_with fail
  refine (HC.out).mono ?_
  rintro e w1 ⟨r, ds', sv', M, rfl, G⟩
  go_wp2_with fail
  go_ret2
  exact ⟨r, ds', sv', M, rfl, G⟩

set_option maxHeartbeats 1000000 in
theorem xor_any (h : Ar w B p m sv vars ds) (x y : Nat) (hx : x < ds.length + 2) (hy : y < ds.length + 2) (hfew : ds.length + 256 ≤ 100000) :
    Calls Try.prog 25 #[.pointer (some ⟨p, 0, none⟩), .int .i64 (x : Int), .int .i64 (y : Int)] w (Tells w B p m sv vars ds (fun a => S ds x a != S ds y a)) := by
  have HC := Lib.hid (join_any 43 (by simp) h x y hx hy hfew)
  go_enter Try.func25, Try.ntmps25
  go_wp2_with fail
  refine (HC.out).mono ?_
  rintro e w1 ⟨r, ds', sv', M, rfl, G⟩
  go_wp2_with fail
  go_ret2
  exact ⟨r, ds', sv', M, rfl, G⟩

set_option maxHeartbeats 1000000 in
theorem ite_any (h : Ar w B p m sv vars ds) (c x y : Nat) (hc : c < ds.length + 2) (hx : x < ds.length + 2) (hy : y < ds.length + 2) (hfew : ds.length + 256 ≤ 100000) :
    Calls Try.prog 26 #[.pointer (some ⟨p, 0, none⟩), .int .i64 (c : Int), .int .i64 (x : Int), .int .i64 (y : Int)] w (Tells w B p m sv vars ds (fun a => if S ds c a then S ds x a else S ds y a)) := by
  have hA := h.alloc (.cells #[.int .i64 (c : Int), .int .i64 (x : Int), .int .i64 (y : Int)] 35)
  have hK := knows_yes hA w.heap.size 3 3 _ (by omega) (Nodes.new3 w c x y) (fun i _ => by split; omega; split <;> omega)
  have hC := choose_any vars _ sv ds c x y hA hc hx hy (top_le h.wf hc) (top_le h.wf hx) (top_le h.wf hy) (Nat.le_refl _) (by have := pow8 h.v8; omega)
  have HK := Lib.hid hK
  have HC := Lib.hid hC
  clear hK hC
  go_enter Try.func26, Try.ntmps26
  go_wp2_with fail
  refine (HK.out).mono ?_
  rintro e w1 ⟨rfl, rfl⟩
  go_wp2_with fail
  refine (HC.out).mono ?_
  rintro e w1 ⟨r, ds', M, rfl, G⟩
  go_wp2_with fail
  go_ret2
  exact Tells.of ((Below.refl _ _).alloc (Nat.le_refl _) _) M rfl G

set_option maxHeartbeats 1000000 in
theorem restrict_any (h : Ar w B p m sv vars ds) (x i : Nat) (to : Bool) (hx : x < ds.length + 2) (hi : i < vars) (hfew : ds.length + 256 ≤ 100000) :
    Calls Try.prog 21 #[.pointer (some ⟨p, 0, none⟩), .int .i64 (x : Int), .int .i64 (i : Int), .bool to] w (Tells w B p m sv vars ds (fun a => S ds x (upd a i to))) := by
  have hA := h.alloc (.cells #[.int .i64 (x : Int)] 35)
  have hK := knows_yes hA w.heap.size 1 1 _ (by omega) (Nodes.new1 w (x : Int)) (fun i _ => by omega)
  have hN := hasName_any hA (i : Int)
  rw [show decide (0 ≤ (i : Int) ∧ (i : Int) < vars) = true from by simp; omega] at hN
  have hC := settle_any i to vars _ sv ds x hA hx (top_le h.wf hx) (Nat.le_refl _) (by have := pow8 h.v8; omega)
  have HK := Lib.hid hK
  have HC := Lib.hid hC
  have HN := Lib.hid hN
  clear hK hC hN
  go_enter Try.func21, Try.ntmps21
  go_wp2_with fail
  refine (HK.out).mono ?_
  rintro e w1 ⟨rfl, rfl⟩
  go_wp2_with fail
  refine (HN.out).mono ?_
  rintro e w1 ⟨rfl, rfl⟩
  go_wp2_with fail
  refine (HC.out).mono ?_
  rintro e w1 ⟨r, ds', M, rfl, G⟩
  go_wp2_with fail
  go_ret2
  exact Tells.of ((Below.refl _ _).alloc (Nat.le_refl _) _) M rfl G

set_option maxHeartbeats 1000000 in
theorem restrict_arg (h : Ar w B p m sv vars ds) (x : Nat) (i : Int) (to : Bool) (hx : x < ds.length + 2) (hi : ¬ (0 ≤ i ∧ i < vars)) :
    Calls Try.prog 21 #[.pointer (some ⟨p, 0, none⟩), .int .i64 (x : Int), .int .i64 i, .bool to] w fun e w' => e = .returned (.tuple #[.int .i64 0, .int .i64 1]) ∧ Below w.heap.size w w' := by
  have hA := h.alloc (.cells #[.int .i64 (x : Int)] 35)
  have hK := knows_yes hA w.heap.size 1 1 _ (by omega) (Nodes.new1 w (x : Int)) (fun i _ => by omega)
  have hN := hasName_any hA i
  rw [show decide (0 ≤ i ∧ i < (vars : Int)) = false from decide_eq_false hi] at hN
  have HK := Lib.hid hK
  have HN := Lib.hid hN
  clear hK hN hi
  go_enter Try.func21, Try.ntmps21
  go_wp2_with fail
  refine (HK.out).mono ?_
  rintro e w1 ⟨rfl, rfl⟩
  go_wp2_with fail
  refine (HN.out).mono ?_
  rintro e w1 ⟨rfl, rfl⟩
  go_wp2_with fail
  go_ret2
  exact ⟨rfl, (Below.refl _ _).alloc (Nat.le_refl _) _⟩

set_option maxHeartbeats 1000000 in
theorem var_any (h : Ar w B p m sv vars ds) (i : Nat) (hi : i < vars) (hfew : ds.length + 256 ≤ 100000) :
    Calls Try.prog 20 #[.pointer (some ⟨p, 0, none⟩), .int .i64 (i : Int)] w (Tells w B p m sv vars ds (fun a => a i)) := by
  have hN := hasName_any h (i : Int)
  rw [show decide (0 ≤ (i : Int) ∧ (i : Int) < vars) = true from by simp; omega] at hN
  have M0 := Made.refl (vars := vars) h.wf (n := 0) (t := i) (by omega) (by simp [top])
  have M1 := Made.refl (vars := vars) h.wf (n := 1) (t := i) (by omega) (by simp [top])
  obtain ⟨J, j1, j2⟩ := made_join M0 M1 hi
  have hD := decide_any h (i, 0, 1) hi j1 M1.lt j2 M1.top (by omega)
  unfold keyOf at hD
  have HN := Lib.hid hN
  have HD := Lib.hid hD
  clear hN hD
  go_enter Try.func20, Try.ntmps20
  go_wp2_with fail
  refine (HN.out).mono ?_
  rintro e w1 ⟨rfl, rfl⟩
  go_wp2_with fail
  refine (HD.out).mono ?_
  rintro e w1 ⟨rfl, G⟩
  go_wp2_with fail
  go_ret2
  refine Tells.of (Below.refl _ _) ((J.mono (show i + 1 ≤ vars by omega)).congr fun a => ?_) rfl G
  rw [S_lt2 (by omega), S_lt2 (by omega)]
  cases a i <;> rfl

set_option maxHeartbeats 1000000 in
theorem var_arg (h : Ar w B p m sv vars ds) (i : Int) (hi : ¬ (0 ≤ i ∧ i < vars)) :
    Calls Try.prog 20 #[.pointer (some ⟨p, 0, none⟩), .int .i64 i] w fun e w' => e = .returned (.tuple #[.int .i64 0, .int .i64 1]) ∧ Below w.heap.size w w' := by
  have hN := hasName_any h i
  rw [show decide (0 ≤ i ∧ i < (vars : Int)) = false from decide_eq_false hi] at hN
  have HN := Lib.hid hN
  clear hN hi
  go_enter Try.func20, Try.ntmps20
  go_wp2_with fail
  refine (HN.out).mono ?_
  rintro e w1 ⟨rfl, rfl⟩
  go_wp2_with fail
  go_ret2
  exact ⟨rfl, Below.refl _ _⟩
end
end Go.Proofs.Ythhcahojbgcihaa
