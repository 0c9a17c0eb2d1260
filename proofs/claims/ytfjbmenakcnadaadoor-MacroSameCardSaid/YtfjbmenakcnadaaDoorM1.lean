/- What is proved: what must and sign tell; how a panic of the program's own goes. -/
import Derived.Test.YtfjbmenakcnadaaDoorM0
import Derived.Test.YtfjbmenakcnadaaDoorP3
import Derived.Recover
import Derived.WalkLawsBesides
import Derived.Lib.SliceRun
import Derived.Maps.OwnSet
import Derived.Deep.RegionLaw
namespace Go.Proofs.YtfjbmenakcnadaaDoor
open Go.RowKit Go.Shelf

def wrongV (e : Int) : Value := .iface 57 (.agg #[.int .i64 e])
def thrown (e : Int) : Ending := .panicked [{ v := wrongV e, recovered := false }]

theorem must_ok (e : Int) (w : World) : Calls Tryd.prog 72 #[.bool true, .int .i64 e] w fun x w' => x = .returned (.tuple #[]) ∧ w' = w := by
  go_enter Tryd.func72, Tryd.ntmps72
  go_wp2_with fail
  go_end0
  exact ⟨rfl, rfl⟩
theorem must_no (e : Int) (w : World) : Calls Tryd.prog 72 #[.bool false, .int .i64 e] w fun x w' => x = thrown e ∧ w' = w := by
  go_enter Tryd.func72, Tryd.ntmps72
  go_wp2_with fail
  exact ⟨rfl, rfl, rfl⟩

set_option maxHeartbeats 4000000 in
set_option maxRecDepth 100000 in
theorem msign_any (t : K) (s : ByteArray) (w : World) : Calls Tryd.prog 73 #[kAgg t, .string s] w fun e w' => e = .returned (.bool (Mx.isP t s)) ∧ Below w.heap.size w w' := by
  obtain ⟨k, tx, f, a, b, bl⟩ := t
  dsimp only [kAgg]
  by_cases h1 : k = 5
  · subst h1
    by_cases h2 : tx = s
    · have t2 : (tx.toList == s.toList) = true := by rw [ba_beq]; simpa using h2
      have e : Mx.isP ⟨5, tx, f, a, b, bl⟩ s = true := by simp [Mx.isP, h2]
      rw [e]
      clear h2 e
      go_enter Tryd.func73, Tryd.ntmps73
      go_wp2_with fail
      go_ret
      exact ⟨rfl, (Below.refl _ _).alloc (Nat.le_refl _) _⟩
    · have t2 : (tx.toList == s.toList) = false := by rw [ba_beq]; simpa using h2
      have e : Mx.isP ⟨5, tx, f, a, b, bl⟩ s = false := by simp [Mx.isP, h2]
      rw [e]
      clear h2 e
      go_enter Tryd.func73, Tryd.ntmps73
      go_wp2_with fail
      go_ret
      exact ⟨rfl, (Below.refl _ _).alloc (Nat.le_refl _) _⟩
  · have t1 : (k == 5) = false := by simpa using h1
    have e : Mx.isP ⟨k, tx, f, a, b, bl⟩ s = false := by simp [Mx.isP, h1]
    rw [e]
    clear h1 e
    go_enter Tryd.func73, Tryd.ntmps73
    go_wp2_with fail
    go_ret
    exact ⟨rfl, (Below.refl _ _).alloc (Nat.le_refl _) _⟩

/-- A place of the document's own sign: is there a token, and is it this one? -/
def isAt (l : List K) (i : Nat) (s : ByteArray) : Bool := match l[i]? with | some t => Mx.isP t s | none => false

set_option maxHeartbeats 4000000 in
set_option maxRecDepth 100000 in
theorem rsign_at (v : Value) (l : List K) (i : Nat) (s : ByteArray) (w : World) (hv : Ks w v l) (hi : i ≤ 4000000000000000) :
    Calls Tryd.prog 24 #[v, .int .i64 i, .string s] w fun e w' => e = .returned (.bool (isAt l i s)) ∧ w' = w := by
  obtain ⟨ad, cap, rfl, h1, h2, h3⟩ := hv
  unfold maxLen at h2
  by_cases hlt : i < l.length
  · obtain ⟨t, ht⟩ : ∃ t, l[i]? = some t := ⟨_, List.getElem?_eq_getElem hlt⟩
    obtain ⟨g, o, rfl, c0, c1, -, -, -, -⟩ := h3 i t ht
    have e : isAt l i s = Mx.isP t s := by simp [isAt, ht]
    rw [e]
    obtain ⟨n, hn⟩ : ∃ n, n = l.length := ⟨_, rfl⟩
    rw [← hn] at h1 hlt ⊢
    clear h3 e ht hn
    obtain ⟨k, tx, f, a, b, bl⟩ := t
    dsimp only at c0 c1
    have z1 : (0 : Int) ≤ i := by omega
    have z2 : (i : Int) < n := by omega
    by_cases q1 : k = 5
    · subst q1
      by_cases q2 : tx = s
      · have t2 : (tx.toList == s.toList) = true := by rw [ba_beq]; simpa using q2
        have e : Mx.isP ⟨5, tx, f, a, b, bl⟩ s = true := by simp [Mx.isP, q2]
        rw [e]
        clear q2 e
        go_enter Tryd.func24, Tryd.ntmps24
        go_wp2_with fail
        go_ret
        exact ⟨rfl, rfl⟩
      · have t2 : (tx.toList == s.toList) = false := by rw [ba_beq]; simpa using q2
        have e : Mx.isP ⟨5, tx, f, a, b, bl⟩ s = false := by simp [Mx.isP, q2]
        rw [e]
        clear q2 e
        go_enter Tryd.func24, Tryd.ntmps24
        go_wp2_with fail
        go_ret
        exact ⟨rfl, rfl⟩
    · have t1 : (k == 5) = false := by simpa using q1
      have e : Mx.isP ⟨k, tx, f, a, b, bl⟩ s = false := by simp [Mx.isP, q1]
      rw [e]
      clear q1 e
      go_enter Tryd.func24, Tryd.ntmps24
      go_wp2_with fail
      go_ret
      exact ⟨rfl, rfl⟩
  · have e : isAt l i s = false := by simp [isAt, List.getElem?_eq_none (by omega : l.length ≤ i)]
    rw [e]
    obtain ⟨n, hn⟩ : ∃ n, n = l.length := ⟨_, rfl⟩
    rw [← hn] at h1 hlt ⊢
    clear h3 e hn
    have z2 : ¬ (i : Int) < n := by omega
    go_enter Tryd.func24, Tryd.ntmps24
    go_wp2_with fail
    go_ret
    exact ⟨rfl, rfl⟩
end Go.Proofs.YtfjbmenakcnadaaDoor
