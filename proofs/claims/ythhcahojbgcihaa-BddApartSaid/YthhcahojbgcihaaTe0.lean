/- What is proved: what the program reads off a condition is what the document reads off its table. -/
import Derived.Test.YthhcahojbgcihaaTh
namespace Go.Proofs.Ythhcahojbgcihaa
open Go.RowKit Bd

theorem set_of (a : Nat → Bool) : ∀ v : Nat, ∃ s, s < 2 ^ v ∧ ∀ i, i < v → Bd.bits s i = a i := by
  intro v
  induction v with
  | zero => exact ⟨0, by simp, fun i hi => by omega⟩
  | succ v ih =>
    obtain ⟨s, h1, h2⟩ := ih
    have hp : 2 ^ (v + 1) = 2 ^ v + 2 ^ v := by rw [Nat.pow_succ]; omega
    by_cases e : a v = true
    · refine ⟨2 ^ v + s, by omega, fun i hi => ?_⟩
      unfold Bd.bits
      by_cases e' : i = v
      · subst e'
        rw [Nat.testBit_two_pow_add_eq, Nat.testBit_lt_two_pow h1, e]
        rfl
      · rw [Nat.testBit_two_pow_add_gt (by omega)]
        exact h2 i (by omega)
    · refine ⟨s, by omega, fun i hi => ?_⟩
      by_cases e' : i = v
      · subst e'
        have : a i = false := by simpa using e
        rw [this]
        exact Nat.testBit_lt_two_pow h1
      · exact h2 i (by omega)

theorem bits_xor (s j : Nat) : Bd.bits (s ^^^ 2 ^ j) = upd (Bd.bits s) j (!Bd.bits s j) := by
  funext i
  unfold Bd.bits upd
  rw [Nat.testBit_xor, Nat.testBit_two_pow]
  by_cases e : i = j
  · subst e; simp
  · simp [e, Ne.symm e]

section
variable {vars : Nat} {ds : List Dec} {x : Nat} {g : (Nat → Bool) → Bool}

theorem Has.near (wf : WF vars ds) (h : Has ds x g) {a b : Nat → Bool} (e : ∀ i, i < vars → a i = b i) : g a = g b := by
  rw [← h.says a, ← h.says b]
  have := top_le wf h.lt
  exact S_congr wf x a b h.lt fun i hi => e i (by omega)

theorem sat_agrees {s : Nat} (h : LeastIs g vars s) {s' : Nat} (h1 : g (Bd.bits s') = true) (h2 : ∀ q, q < s' → g (Bd.bits q) = false) : s = s' := by
  have := h.2.2 s' h1
  rcases Nat.lt_or_ge s s' with hlt | hge
  · have := h2 s hlt
    rw [h.2.1] at this
    cases this
  · omega

theorem only_agrees (wf : WF vars ds) (h : Has ds x g) {A A' : Nat} (hA : NamesOf g A) (hA' : OU (fun s => g (Bd.bits s)) (2 ^ vars) vars 0 A') : A = A' := by
  apply Nat.eq_of_testBit_eq
  intro j
  rw [Bool.eq_iff_iff, hA.2 j, hA'.2 j]
  constructor
  · rintro ⟨a, ha⟩
    have hj : j < vars := by
      rcases Nat.lt_or_ge j vars with h1 | h1
      · exact h1
      · exact (ha (h.near wf fun i hi => by rw [upd_other a true (by omega), upd_other a false (by omega)])).elim
    obtain ⟨s, h1, h2⟩ := set_of a vars
    refine .inl ⟨hj, s, h1, ?_⟩
    have e : ∀ b, g (upd a j b) = g (upd (Bd.bits s) j b) := fun b => h.near wf fun i hi => by
      by_cases e : i = j
      · subst e; rw [upd_same, upd_same]
      · rw [upd_other a b e, upd_other _ b e, h2 i hi]
    rw [e, e] at ha
    show g (Bd.bits s) ≠ g (Bd.bits (s ^^^ 2 ^ j))
    rw [bits_xor]
    cases hb : Bd.bits s j
    · have : upd (Bd.bits s) j false = Bd.bits s := by rw [← hb]; funext i; unfold upd; split; rename_i e; rw [e]; rfl
      rw [this] at ha
      exact fun h => ha h.symm
    · have : upd (Bd.bits s) j true = Bd.bits s := by rw [← hb]; funext i; unfold upd; split; rename_i e; rw [e]; rfl
      rw [this] at ha
      exact ha
  · rintro (⟨_, s, _, hs⟩ | ⟨_, s, h1, _⟩)
    · refine ⟨Bd.bits s, ?_⟩
      have hs' : g (Bd.bits s) ≠ g (Bd.bits (s ^^^ 2 ^ j)) := hs
      rw [bits_xor] at hs'
      cases hb : Bd.bits s j
      · have : upd (Bd.bits s) j false = Bd.bits s := by rw [← hb]; funext i; unfold upd; split; rename_i e; rw [e]; rfl
        rw [this]
        rw [hb] at hs'
        exact fun h => hs' h.symm
      · have : upd (Bd.bits s) j true = Bd.bits s := by rw [← hb]; funext i; unfold upd; split; rename_i e; rw [e]; rfl
        rw [this]
        rw [hb] at hs'
        exact hs'
    · omega

theorem one_agrees (wf : WF vars ds) {y : Nat} {f : (Nat → Bool) → Bool} (h : Has ds x g) (k : Has ds y f) : (∀ q, q < 2 ^ vars → g (Bd.bits q) = f (Bd.bits q)) ↔ x = y := by
  constructor
  · intro e
    refine Has.one wf h k fun a => ?_
    obtain ⟨s, h1, h2⟩ := set_of a vars
    rw [h.near wf (b := Bd.bits s) fun i hi => (h2 i hi).symm, k.near wf (b := Bd.bits s) fun i hi => (h2 i hi).symm]
    exact e s h1
  · rintro rfl q _
    rw [← h.says, ← k.says]
end
end Go.Proofs.Ythhcahojbgcihaa
