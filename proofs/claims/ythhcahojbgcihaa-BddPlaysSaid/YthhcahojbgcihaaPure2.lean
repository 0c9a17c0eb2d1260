/- What is proved: what is made of two sides, and of the sides of a condition, in plain words. -/
import Derived.Test.YthhcahojbgcihaaPure
namespace Go.Proofs.Ythhcahojbgcihaa.Bd

variable {vars : Nat} {ds ds1 ds2 : List Dec}

def splitOf (ds : List Dec) (n name : Nat) : Nat × Nat := if top ds n = name + 1 then (dec ds n).2 else (n, n)

theorem split_ok (h : WF vars ds) {n t : Nat} (hn : n < ds.length + 2) (ht : top ds n ≤ t + 1) :
    (splitOf ds n t).1 < ds.length + 2 ∧ (splitOf ds n t).2 < ds.length + 2 ∧ top ds (splitOf ds n t).1 ≤ t ∧ top ds (splitOf ds n t).2 ≤ t ∧
      ∀ a, S ds n a = if a t then S ds (splitOf ds n t).2 a else S ds (splitOf ds n t).1 a := by
  unfold splitOf
  by_cases e : top ds n = t + 1
  · rw [if_pos e]
    have h2 : 2 ≤ n := by unfold top at e; split at e <;> omega
    have en : (dec ds n).1 = t := by unfold top at e; rw [if_neg (by omega)] at e; omega
    have hl := h.lo n h2 hn
    have hh := h.hi n h2 hn
    have tl := h.tlo n h2 hn
    have th := h.thi n h2 hn
    refine ⟨by omega, by omega, by omega, by omega, fun a => ?_⟩
    rw [S_ge2 h h2 hn, en]
    split <;> rfl
  · rw [if_neg e]
    exact ⟨hn, hn, by dsimp only; omega, by dsimp only; omega, fun a => by simp⟩

theorem Made.refl (h : WF vars ds) {n t : Nat} (hn : n < ds.length + 2) (ht : Bd.top ds n ≤ t) : Made vars ds ds n (S ds n) t :=
  ⟨⟨[], by simp⟩, h, hn, fun _ => rfl, ht, by have := Nat.one_le_two_pow (n := t); omega⟩

theorem Made.congr {r : Nat} {g g' : (Nat → Bool) → Bool} {t : Nat} (h : Made vars ds ds1 r g t) (e : ∀ a, g a = g' a) : Made vars ds ds1 r g' t :=
  ⟨h.ext, h.wf, h.lt, fun a => (h.says a).trans (e a), h.top, h.few⟩

theorem Made.mono {r : Nat} {g : (Nat → Bool) → Bool} {t t' : Nat} (h : Made vars ds ds1 r g t) (ht : t ≤ t') : Made vars ds ds1 r g t' :=
  ⟨h.ext, h.wf, h.lt, h.says, Nat.le_trans h.top ht, by have := Nat.pow_le_pow_right (n := 2) (by omega) ht; have := h.few; omega⟩

/-- What was there before is there still. -/
theorem Made.old {r : Nat} {g : (Nat → Bool) → Bool} {t : Nat} (w : WF vars ds) (h : Made vars ds ds1 r g t) {n : Nat} (hn : n < ds.length + 2) :
    n < ds1.length + 2 ∧ Bd.top ds1 n = Bd.top ds n ∧ ∀ a, S ds1 n a = S ds n a := by
  obtain ⟨e, rfl⟩ := h.ext
  exact ⟨by simp; omega, top_append _ hn, S_append w e h.wf n hn⟩

theorem Made.len {r : Nat} {g : (Nat → Bool) → Bool} {t : Nat} (h : Made vars ds ds1 r g t) : ds.length ≤ ds1.length := by
  obtain ⟨e, rfl⟩ := h.ext
  simp

theorem made_join {r1 r2 t : Nat} {g0 g1 : (Nat → Bool) → Bool} (h1 : Made vars ds ds1 r1 g0 t) (h2 : Made vars ds1 ds2 r2 g1 t) (ht : t < vars) :
    Made vars ds (decide_ ds2 (t, r1, r2)).2 (decide_ ds2 (t, r1, r2)).1 (fun a => if a t then g1 a else g0 a) (t + 1) ∧ r1 < ds2.length + 2 ∧ Bd.top ds2 r1 ≤ t := by
  obtain ⟨a1, a2, a3⟩ := h2.old h1.wf h1.lt
  have ht1 : Bd.top ds2 r1 ≤ t := by rw [a2]; exact h1.top
  have hM := decide_made (vars := vars) (ds := ds2) (d := (t, r1, r2)) h2.wf ht a1 h2.lt ht1 h2.top
  obtain ⟨m1, ⟨e, m2, m2'⟩, m3, m4, m5⟩ := hM
  refine ⟨⟨?_, m1, m3, fun a => ?_, m4, ?_⟩, a1, ht1⟩
  · obtain ⟨e1, x1⟩ := h1.ext
    obtain ⟨e2, x2⟩ := h2.ext
    exact ⟨e1 ++ (e2 ++ e), by rw [m2, x2, x1]; simp⟩
  · rw [m5 a]
    split
    · exact h2.says a
    · exact (a3 a).trans (h1.says a)
  · have f1 := h1.few
    have f2 := h2.few
    rw [m2, List.length_append, Nat.pow_succ]
    omega

end Go.Proofs.Ythhcahojbgcihaa.Bd
