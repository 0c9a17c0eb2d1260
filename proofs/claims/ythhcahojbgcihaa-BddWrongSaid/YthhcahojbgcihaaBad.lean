/- What is proved: what is told of numbers that are no conditions, and of sets that are none. -/
import Derived.Test.YthhcahojbgcihaaW8
namespace Go.Proofs.Ythhcahojbgcihaa
open Go.RowKit Bd

section
variable {w : World} {B p m vars : Nat} {sv : Value} {ds : List Dec}

theorem knows_no1 (h : Ar w B p m sv vars ds) (x : Int) (hx : x < 0) : Calls Try.prog 31 #[.pointer (some ⟨p, 0, none⟩), .slice (some ⟨w.heap.size, 0, none⟩) 1 1] (w.alloc (.cells #[.int .i64 x] 35)) fun e w' => e = .returned (.bool false) ∧ (w.alloc (.cells #[.int .i64 x] 35)) = w' :=
  knows_no (h.alloc _) w.heap.size 1 1 _ (by omega) (Nodes.new1 w x) 0 (by omega) hx

set_option maxHeartbeats 1000000 in
theorem and_bad (h : Ar w B p m sv vars ds) (x y : Int) (hxy : x < 0 ∨ y < 0) :
    Calls Try.prog 23 #[.pointer (some ⟨p, 0, none⟩), .int .i64 x, .int .i64 y] w fun e w' => e = .returned (.tuple #[.int .i64 0, .int .i64 10]) ∧ Below w.heap.size w w' := by
  have HC := Lib.hid (join_bad 41 h x y hxy)
  clear hxy
  go_enter Try.func23, Try.ntmps23
  go_wp2_with fail
  refine (HC.out).mono ?_
  rintro e w1 ⟨rfl, G⟩
  go_wp2_with fail
  go_ret2
  exact ⟨rfl, G⟩

set_option maxHeartbeats 1000000 in
theorem or_bad (h : Ar w B p m sv vars ds) (x y : Int) (hxy : x < 0 ∨ y < 0) :
    Calls Try.prog 24 #[.pointer (some ⟨p, 0, none⟩), .int .i64 x, .int .i64 y] w fun e w' => e = .returned (.tuple #[.int .i64 0, .int .i64 10]) ∧ Below w.heap.size w w' := by
  have HC := Lib.hid (join_bad 42 h x y hxy)
  clear hxy
  go_enter Try.func24, Try.ntmps24
  go_wp2_with fail
  refine (HC.out).mono ?_
  rintro e w1 ⟨rfl, G⟩
  go_wp2_with fail
  go_ret2
  exact ⟨rfl, G⟩

set_option maxHeartbeats 1000000 in
theorem xor_bad (h : Ar w B p m sv vars ds) (x y : Int) (hxy : x < 0 ∨ y < 0) :
    Calls Try.prog 25 #[.pointer (some ⟨p, 0, none⟩), .int .i64 x, .int .i64 y] w fun e w' => e = .returned (.tuple #[.int .i64 0, .int .i64 10]) ∧ Below w.heap.size w w' := by
  have HC := Lib.hid (join_bad 43 h x y hxy)
  clear hxy
  go_enter Try.func25, Try.ntmps25
  go_wp2_with fail
  refine (HC.out).mono ?_
  rintro e w1 ⟨rfl, G⟩
  go_wp2_with fail
  go_ret2
  exact ⟨rfl, G⟩

set_option maxHeartbeats 1000000 in
theorem ite_bad (h : Ar w B p m sv vars ds) (c x y : Int) (hy : y < 0) :
    Calls Try.prog 26 #[.pointer (some ⟨p, 0, none⟩), .int .i64 c, .int .i64 x, .int .i64 y] w fun e w' => e = .returned (.tuple #[.int .i64 0, .int .i64 10]) ∧ Below w.heap.size w w' := by
  have hN : Nodes (w.alloc (.cells #[.int .i64 c, .int .i64 x, .int .i64 y] 35)) w.heap.size 3 (fun i => if i = 0 then c else if i = 1 then x else y) := by
    refine ⟨by simp, fun i hi => ?_⟩
    have e : (w.alloc (.cells #[.int .i64 c, .int .i64 x, .int .i64 y] 35)).heap[w.heap.size]? = some (.cells #[.int .i64 c, .int .i64 x, .int .i64 y] 35) := heap_alloc_new _ _
    rw [cell_of_row _ _ _ _ _ _ e]
    match i, hi with
    | 0, _ => rfl
    | 1, _ => rfl
    | 2, _ => rfl
  have HK := Lib.hid (knows_no (h.alloc _) w.heap.size 3 3 _ (by omega) hN 2 (by omega) hy)
  clear hN hy
  go_enter Try.func26, Try.ntmps26
  go_wp2_with fail
  refine (HK.out).mono ?_
  rintro e w1 ⟨rfl, rfl⟩
  go_wp2_with fail
  go_ret2
  exact ⟨rfl, (Below.refl _ _).alloc (Nat.le_refl _) _⟩

set_option maxHeartbeats 1000000 in
theorem restrict_bad (h : Ar w B p m sv vars ds) (x i : Int) (to : Bool) (hx : x < 0) :
    Calls Try.prog 21 #[.pointer (some ⟨p, 0, none⟩), .int .i64 x, .int .i64 i, .bool to] w fun e w' => e = .returned (.tuple #[.int .i64 0, .int .i64 10]) ∧ Below w.heap.size w w' := by
  have HK := Lib.hid (knows_no1 h x hx)
  go_enter Try.func21, Try.ntmps21
  go_wp2_with fail
  refine (HK.out).mono ?_
  rintro e w1 ⟨rfl, rfl⟩
  go_wp2_with fail
  go_ret2
  exact ⟨rfl, (Below.refl _ _).alloc (Nat.le_refl _) _⟩

set_option maxHeartbeats 1000000 in
theorem holds_bad (h : Ar w B p m sv vars ds) (x s : Int) (hx : x < 0) :
    Calls Try.prog 11 #[.pointer (some ⟨p, 0, none⟩), .int .i64 x, .int .i64 s] w fun e w' => e = .returned (.tuple #[.bool false, .int .i64 10]) ∧ Below w.heap.size w w' := by
  have HK := Lib.hid (knows_no1 h x hx)
  go_enter Try.func11, Try.ntmps11
  go_wp2_with fail
  refine (HK.out).mono ?_
  rintro e w1 ⟨rfl, rfl⟩
  go_wp2_with fail
  go_ret2
  exact ⟨rfl, (Below.refl _ _).alloc (Nat.le_refl _) _⟩

set_option maxHeartbeats 1000000 in
theorem sat_bad (h : Ar w B p m sv vars ds) (x : Int) (hx : x < 0) :
    Calls Try.prog 13 #[.pointer (some ⟨p, 0, none⟩), .int .i64 x] w fun e w' => e = .returned (.tuple #[.int .i64 0, .bool false, .int .i64 10]) ∧ Below w.heap.size w w' := by
  have HK := Lib.hid (knows_no1 h x hx)
  go_enter Try.func13, Try.ntmps13
  go_wp2_with fail
  refine (HK.out).mono ?_
  rintro e w1 ⟨rfl, rfl⟩
  go_wp2_with fail
  go_ret3
  exact ⟨rfl, (Below.refl _ _).alloc (Nat.le_refl _) _⟩

set_option maxHeartbeats 1000000 in
theorem count_bad (h : Ar w B p m sv vars ds) (x : Int) (hx : x < 0) :
    Calls Try.prog 15 #[.pointer (some ⟨p, 0, none⟩), .int .i64 x] w fun e w' => e = .returned (.tuple #[.int .i64 0, .int .i64 10]) ∧ Below w.heap.size w w' := by
  have HK := Lib.hid (knows_no1 h x hx)
  go_enter Try.func15, Try.ntmps15
  go_wp2_with fail
  refine (HK.out).mono ?_
  rintro e w1 ⟨rfl, rfl⟩
  go_wp2_with fail
  go_ret2
  exact ⟨rfl, (Below.refl _ _).alloc (Nat.le_refl _) _⟩

set_option maxHeartbeats 1000000 in
theorem only_bad (h : Ar w B p m sv vars ds) (x : Int) (hx : x < 0) :
    Calls Try.prog 16 #[.pointer (some ⟨p, 0, none⟩), .int .i64 x] w fun e w' => e = .returned (.tuple #[.int .i64 0, .int .i64 10]) ∧ Below w.heap.size w w' := by
  have HK := Lib.hid (knows_no1 h x hx)
  go_enter Try.func16, Try.ntmps16
  go_wp2_with fail
  refine (HK.out).mono ?_
  rintro e w1 ⟨rfl, rfl⟩
  go_wp2_with fail
  go_ret2
  exact ⟨rfl, (Below.refl _ _).alloc (Nat.le_refl _) _⟩

set_option maxHeartbeats 1000000 in
theorem holds_arg (h : Ar w B p m sv vars ds) (x : Nat) (s : Int) (hx : x < ds.length + 2) (hs : ¬ (0 ≤ s ∧ s < 2 ^ vars)) :
    Calls Try.prog 11 #[.pointer (some ⟨p, 0, none⟩), .int .i64 (x : Int), .int .i64 s] w fun e w' => e = .returned (.tuple #[.bool false, .int .i64 1]) ∧ Below w.heap.size w w' := by
  have hA := h.alloc (.cells #[.int .i64 (x : Int)] 35)
  have HK := Lib.hid (knows_yes hA w.heap.size 1 1 _ (by omega) (Nodes.new1 w (x : Int)) (fun i _ => by omega))
  have HV := Lib.hid (vars_any hA)
  have v8 := h.v8
  have hp8 := pow8 h.v8
  have k4 : (vars : Int) ≤ 64 := by omega
  have e0 : ((2 ^ vars : Nat) : Int) = 2 ^ vars := by simp
  have k6 : IntKind.i64.wrap ((2 : Int) ^ vars) = 2 ^ vars := by
    rw [← e0]
    exact wrapped _ (by omega)
  by_cases hneg : s < 0
  · clear hs e0
    go_enter Try.func11, Try.ntmps11
    go_wp2_with fail
    refine (HK.out).mono ?_
    rintro e w1 ⟨rfl, rfl⟩
    go_wp2_with fail
    go_ret2
    exact ⟨rfl, (Below.refl _ _).alloc (Nat.le_refl _) _⟩
  · have hs0 : decide (s < 0) = false := by simp; omega
    have k5 : decide ((2 : Int) ^ vars ≤ s) = true := by simp; omega
    clear hs e0 hneg
    go_enter Try.func11, Try.ntmps11
    go_wp2_with fail
    refine (HK.out).mono ?_
    rintro e w1 ⟨rfl, rfl⟩
    go_wp2_with fail
    refine (HV.out).mono ?_
    rintro e w1 ⟨rfl, rfl⟩
    go_wp2_with fail
    go_ret2
    exact ⟨rfl, (Below.refl _ _).alloc (Nat.le_refl _) _⟩
end
end Go.Proofs.Ythhcahojbgcihaa
