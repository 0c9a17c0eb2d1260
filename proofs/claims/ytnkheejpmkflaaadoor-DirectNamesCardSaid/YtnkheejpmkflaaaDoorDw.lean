/- What is proved: plain facts on lines: they stand one behind the other, a Newline between. -/
import Derived.Test.YtnkheejpmkflaaaDoorDz
namespace Go.Proofs.YtnkheejpmkflaaaDoor.Dx
open Go.Lib

/-- No Newline from place a up to place b. -/
def noNl (ts : List K) (a b : Nat) : Prop := ∀ j t, a ≤ j → j < b → ts[j]? = some t → t.kind ≠ 7
/-- What stands at a line's place: its tokens, and what is behind it. -/
def Next (ts : List K) (a n : Nat) (R : List (Nat × Nat)) : Prop :=
  a + n ≤ ts.length ∧ noNl ts a (a + n) ∧ ((a + n = ts.length ∧ R = []) ∨ (∃ t, ts[a + n]? = some t ∧ t.kind = 7 ∧ R = cuts (a + n + 1) (a + n + 1) (ts.drop (a + n + 1))))

theorem cuts_scan (ts : List K) : ∀ (d f k : Nat), d = ts.length - k → f ≤ k → k ≤ ts.length → f < ts.length → noNl ts f k → ∃ n R, cuts f k (ts.drop k) = (f, n) :: R ∧ Next ts f n R := by
  intro d
  induction d with
  | zero =>
    intro f k hd hfk hk hf hno
    obtain rfl : k = ts.length := by omega
    rw [List.drop_of_length_le (Nat.le_refl _)]
    refine ⟨ts.length - f, [], ?_, ?_⟩
    · unfold cuts; rw [if_pos hf]
    · rw [Next, show f + (ts.length - f) = ts.length by omega]
      exact ⟨Nat.le_refl _, hno, .inl ⟨rfl, rfl⟩⟩
  | succ d ih =>
    intro f k hd hfk hk hf hno
    have hlt : k < ts.length := by omega
    rw [List.drop_eq_getElem_cons hlt]
    by_cases h7 : ts[k].kind = 7
    · refine ⟨k - f, cuts (k + 1) (k + 1) (ts.drop (k + 1)), ?_, ?_⟩
      · conv => lhs; unfold cuts
        rw [if_pos h7]
      · rw [Next, show f + (k - f) = k by omega]
        exact ⟨hk, hno, .inr ⟨ts[k], List.getElem?_eq_getElem hlt, h7, rfl⟩⟩
    · obtain ⟨n, R, e, hn⟩ := ih f (k + 1) (by omega) (by omega) hlt hf (fun j t h1 h2 ht => by
        by_cases ej : j = k
        · subst ej; rw [List.getElem?_eq_getElem hlt] at ht; injection ht with ht; rw [← ht]; exact h7
        · exact hno j t h1 (by omega) ht)
      refine ⟨n, R, ?_, hn⟩
      conv => lhs; unfold cuts
      rw [if_neg h7]; exact e
theorem cuts_next (ts : List K) (a : Nat) (ha : a < ts.length) : ∃ n R, cuts a a (ts.drop a) = (a, n) :: R ∧ Next ts a n R :=
  cuts_scan ts _ a a rfl (Nat.le_refl _) (Nat.le_of_lt ha) ha (fun j t h1 h2 => by omega)
theorem cuts_none (ts : List K) (a : Nat) (ha : a ≤ ts.length) (h : cuts a a (ts.drop a) = []) : a = ts.length := by
  rcases Nat.lt_or_ge a ts.length with h1 | h1
  · obtain ⟨n, R, e, _⟩ := cuts_next ts a h1
    rw [e] at h; cases h
  · omega
theorem cuts_full (ts : List K) (a : Nat) (ha : a = ts.length) : cuts a a (ts.drop a) = [] := by
  rw [List.drop_of_length_le (by omega)]; unfold cuts; rw [if_neg (by omega)]

/-- Where a walk over lines stands: i lines are passed, the next one begins at place a. -/
def Pass (ts : List K) (i a : Nat) : Prop := a ≤ ts.length ∧ (cuts 0 0 ts).drop i = cuts a a (ts.drop a)
theorem pass_start (ts : List K) : Pass ts 0 0 := ⟨Nat.zero_le _, by simp⟩
theorem pass_end {ts : List K} {i a : Nat} (h : Pass ts i a) (hi : (cuts 0 0 ts).length ≤ i) : a = ts.length := by
  refine cuts_none ts a h.1 ?_
  rw [← h.2, List.drop_of_length_le hi]
theorem pass_line {ts : List K} {i a : Nat} (h : Pass ts i a) (hi : i < (cuts 0 0 ts).length) :
    ∃ n, (lines ts)[i]? = some (lnOf ts (a, n)) ∧ a < ts.length ∧ a + n ≤ ts.length ∧ noNl ts a (a + n) ∧
      ((a + n = ts.length ∧ Pass ts (i + 1) (a + n)) ∨ (∃ t, ts[a + n]? = some t ∧ t.kind = 7 ∧ Pass ts (i + 1) (a + n + 1))) := by
  have e := h.2
  rw [List.drop_eq_getElem_cons hi] at e
  have ha : a < ts.length := by
    rcases Nat.lt_or_ge a ts.length with h1 | h1
    · exact h1
    · rw [cuts_full ts a (by have := h.1; omega)] at e; cases e
  obtain ⟨n, R, e2, hle, hno, hr⟩ := cuts_next ts a ha
  rw [e2] at e
  injection e with e3 e4
  refine ⟨n, ?_, ha, hle, hno, ?_⟩
  · unfold lines
    rw [List.getElem?_map, List.getElem?_eq_getElem hi, e3]
    rfl
  · rcases hr with ⟨h1, h2⟩ | ⟨t, h1, h2, h3⟩
    · refine .inl ⟨h1, by omega, ?_⟩
      rw [e4, h2, cuts_full ts _ h1]
    · refine .inr ⟨t, h1, h2, (List.getElem?_eq_some_iff.1 h1).1, ?_⟩
      rw [e4, h3]
end Go.Proofs.YtnkheejpmkflaaaDoor.Dx
