/- What is proved: plain facts on lines and directives: where lines stand, what kind each is of, what an include names. -/
import Derived.Test.YtnkheejpmkflaaaDoorKt
namespace Go.Proofs.YtnkheejpmkflaaaDoor.Dx
open Go.Lib Go.Proofs.YtnkheejpmkflaaaDoor

/-- A directive's kind, by its word. -/
def kindOf (w : ByteArray) : Int := match wordTab.findIdx? (fun s => decide (w = ⟨s.toArray⟩)) with
  | some i => (i : Int) + 2
  | none => 0
/-- A directive's word. -/
def wordOf (k : Int) : ByteArray := if 2 ≤ k ∧ k ≤ 13 then ⟨(wordTab.getD (k - 2).toNat []).toArray⟩ else ⟨#[]⟩

/-- The word at a place of the table. -/
def wordAt (k : Nat) : ByteArray := ⟨(wordTab.getD k []).toArray⟩
def noneTo (x : ByteArray) (k : Nat) : Prop := ∀ j, j < k → x ≠ wordAt j
theorem noneTo_zero (x : ByteArray) : noneTo x 0 := fun _ h => by omega
theorem noneTo_succ {x : ByteArray} {k : Nat} (h : noneTo x k) (hk : x ≠ wordAt k) : noneTo x (k + 1) := fun j hj => by
  by_cases e : j = k
  · rw [e]; exact hk
  · exact h j (by omega)
theorem kind_hit (k : Nat) (hk : k < 12) : kindOf (wordAt k) = (k : Int) + 2 := by
  have key : ∀ j, j < k → wordAt k ≠ wordAt j := by
    intro j hj e
    have e' : wordTab.getD k [] = wordTab.getD j [] := by
      have := congrArg (fun b : ByteArray => b.data.toList) e
      simpa [wordAt] using this
    have all : ∀ a < 12, ∀ b < a, wordTab.getD a [] ≠ wordTab.getD b [] := by decide
    exact all k hk j hj e'
  have hl : k < wordTab.length := hk
  have hf : wordTab.findIdx? (fun s => decide (wordAt k = ⟨s.toArray⟩)) = some k := by
    rw [List.findIdx?_eq_some_iff_getElem]
    refine ⟨hl, ?_, fun j hj => ?_⟩
    · simp [wordAt, hl]
    · have := key j hj
      have hj' : j < wordTab.length := by omega
      simp only [wordAt, List.getD_eq_getElem?_getD, List.getElem?_eq_getElem hj', Option.getD_some] at this ⊢
      simpa using this
  unfold kindOf
  rw [hf]
theorem kind_miss (x : ByteArray) (h : noneTo x 12) : kindOf x = 0 := by
  have hf : wordTab.findIdx? (fun s => decide (x = ⟨s.toArray⟩)) = none := by
    rw [List.findIdx?_eq_none_iff]
    intro s hs
    obtain ⟨j, hj, e⟩ := List.getElem_of_mem hs
    have := h j hj
    simp only [wordAt, List.getD_eq_getElem?_getD, List.getElem?_eq_getElem hj, Option.getD_some, e] at this
    simpa using this
  unfold kindOf
  rw [hf]
theorem kind_cases (x : ByteArray) : noneTo x 12 ∨ ∃ k, k < 12 ∧ x = wordAt k := by
  by_cases h : ∃ k, k < 12 ∧ x = wordAt k
  · exact .inr h
  · exact .inl fun j hj e => h ⟨j, hj, e⟩
theorem word_cell (k : Nat) (hk : k < 12) : wordCells[k]? = some (.string (wordAt k)) := by
  have hl : k < wordTab.length := hk
  unfold wordCells wordAt
  rw [List.getElem?_toArray, List.getElem?_map, List.getElem?_eq_getElem hl]
  simp [hl]
theorem word_of (k : Nat) (hk : k < 12) : wordOf ((k : Int) + 2) = wordAt k := by
  unfold wordOf wordAt
  rw [if_pos (by omega), show ((k : Int) + 2 - 2).toNat = k by omega]
theorem word_none (k : Int) (h : ¬ (2 ≤ k ∧ k ≤ 13)) : wordOf k = ⟨#[]⟩ := by
  unfold wordOf
  rw [if_neg h]

def isSign (t : K) (s : ByteArray) : Bool := t.kind == 5 && decide (t.text = s)
/-- A line's kind, and how many of its tokens stand ahead of those that it is about. -/
def begins : List K → Int × Nat
  | [] => (1, 0)
  | t :: r => if isSign t ⟨#[35]⟩ then (match r with
      | [] => (14, 1)
      | u :: _ => if u.kind = 1 ∧ kindOf u.text ≠ 0 then (kindOf u.text, 2) else (15, 1)) else (1, 0)
theorem begins_nil : begins [] = (1, 0) := rfl
theorem begins_no (t : K) (r : List K) (h : isSign t ⟨#[35]⟩ = false) : begins (t :: r) = (1, 0) := by
  cases r <;> simp [begins, h]
theorem begins_one (t : K) (h : isSign t ⟨#[35]⟩ = true) : begins [t] = (14, 1) := by simp [begins, h]
theorem begins_two (t u : K) (r : List K) (h : isSign t ⟨#[35]⟩ = true) : begins (t :: u :: r) = if u.kind = 1 ∧ kindOf u.text ≠ 0 then (kindOf u.text, 2) else (15, 1) := by simp [begins, h]
theorem begins_le (l : List K) : (begins l).2 ≤ l.length := by
  match l with
  | [] => simp [begins]
  | t :: r =>
    cases h : isSign t ⟨#[35]⟩ with
    | false => rw [begins_no t r h]; simp
    | true =>
      cases r with
      | nil => rw [begins_one t h]; simp
      | cons u r => rw [begins_two t u r h]; split <;> simp
def mkLn (first : Nat) (l : List K) : Ln := ⟨(begins l).1, first, l.length, l.drop (begins l).2⟩

/-- Where each line begins, and how many tokens it has: of tokens from place k on, of which the line's first one has the place f. -/
def cuts : Nat → Nat → List K → List (Nat × Nat)
  | f, k, [] => if f < k then [(f, k - f)] else []
  | f, k, t :: r => if t.kind = 7 then (f, k - f) :: cuts (k + 1) (k + 1) r else cuts f (k + 1) r
/-- The line of a place and a number. -/
def lnOf (l : List K) (c : Nat × Nat) : Ln := mkLn c.1 ((l.drop c.1).take c.2)
/-- The lines of tokens. -/
def lines (l : List K) : List Ln := (cuts 0 0 l).map (lnOf l)

theorem cuts_len : ∀ (l : List K) (f k : Nat), (cuts f k l).length + (if f < k then 0 else 1) ≤ l.length + 1
  | [], f, k => by unfold cuts; split <;> simp
  | t :: r, f, k => by
    unfold cuts
    split
    · have := cuts_len r (k + 1) (k + 1)
      rw [if_neg (by omega)] at this
      simp; split <;> omega
    · have := cuts_len r f (k + 1)
      simp
      split at this <;> split <;> omega
theorem cuts_length (l : List K) : (cuts 0 0 l).length ≤ l.length := by
  have := cuts_len l 0 0
  rw [if_neg (by omega)] at this
  omega

/-- What has come when l is passed up to place k, the line having begun at f; what is still to come. -/
def At (l : List K) (f k : Nat) (pre : List (Nat × Nat)) : Prop := f ≤ k ∧ k ≤ l.length ∧ cuts 0 0 l = pre ++ cuts f k (l.drop k)
theorem at_start (l : List K) : At l 0 0 [] := ⟨Nat.le_refl _, Nat.zero_le _, by simp⟩
theorem at_skip {l : List K} {f k : Nat} {pre : List (Nat × Nat)} {t : K} (h : At l f k pre) (ht : l[k]? = some t) (hk : t.kind ≠ 7) : At l f (k + 1) pre := by
  obtain ⟨hlt, e⟩ := List.getElem?_eq_some_iff.1 ht
  have e2 : l.drop k = t :: l.drop (k + 1) := by rw [← e]; exact List.drop_eq_getElem_cons hlt
  refine ⟨by have := h.1; omega, hlt, ?_⟩
  rw [h.2.2, e2]
  conv => lhs; unfold cuts
  rw [if_neg hk]
theorem at_cut {l : List K} {f k : Nat} {pre : List (Nat × Nat)} {t : K} (h : At l f k pre) (ht : l[k]? = some t) (hk : t.kind = 7) : At l (k + 1) (k + 1) (pre ++ [(f, k - f)]) ∧ pre ++ [(f, k - f)] <+: cuts 0 0 l ∧ pre.length < (cuts 0 0 l).length := by
  obtain ⟨hlt, e⟩ := List.getElem?_eq_some_iff.1 ht
  have e2 : l.drop k = t :: l.drop (k + 1) := by rw [← e]; exact List.drop_eq_getElem_cons hlt
  have e3 : cuts 0 0 l = pre ++ [(f, k - f)] ++ cuts (k + 1) (k + 1) (l.drop (k + 1)) := by
    rw [h.2.2, e2]
    conv => lhs; unfold cuts
    rw [if_pos hk]; simp
  exact ⟨⟨Nat.le_refl _, hlt, e3⟩, ⟨_, e3.symm⟩, by rw [e3]; simp⟩
theorem at_end {l : List K} {f k : Nat} {pre : List (Nat × Nat)} (h : At l f k pre) (hk : l.length ≤ k) : (f < l.length → cuts 0 0 l = pre ++ [(f, l.length - f)] ∧ pre.length < (cuts 0 0 l).length) ∧ (l.length ≤ f → cuts 0 0 l = pre) := by
  have h1 := h.2.1
  obtain rfl : k = l.length := by omega
  have e := h.2.2
  rw [List.drop_of_length_le (Nat.le_refl _), show cuts f l.length [] = if f < l.length then [(f, l.length - f)] else [] from rfl] at e
  refine ⟨fun hf => ?_, fun hf => ?_⟩
  · rw [if_pos hf] at e
    exact ⟨e, by rw [e]; simp⟩
  · rw [if_neg (by omega)] at e
    simpa using e

theorem at_endN {l : List K} {f k N : Nat} {pre : List (Nat × Nat)} (h : At l f k pre) (hN : N = l.length) (hk : N ≤ k) : (f < N → cuts 0 0 l = pre ++ [(f, N - f)] ∧ pre.length < (cuts 0 0 l).length) ∧ (N ≤ f → cuts 0 0 l = pre) := by
  subst hN; exact at_end h hk

theorem cuts_in : ∀ (l : List K) (f k : Nat), f ≤ k → ∀ c ∈ cuts f k l, c.1 + c.2 ≤ k + l.length
  | [], f, k, hf, c, hc => by
    unfold cuts at hc
    split at hc
    · simp at hc; subst hc; simp; omega
    · simp at hc
  | t :: r, f, k, hf, c, hc => by
    unfold cuts at hc
    split at hc
    · rcases List.mem_cons.1 hc with rfl | hc
      · simp; omega
      · have := cuts_in r (k + 1) (k + 1) (Nat.le_refl _) c hc
        simp; omega
    · have := cuts_in r f (k + 1) (by omega) c hc
      simp; omega
theorem cuts_bound (l : List K) : ∀ c ∈ cuts 0 0 l, c.1 + c.2 ≤ l.length := fun c hc => by
  have := cuts_in l 0 0 (Nat.le_refl _) c hc
  omega
end Go.Proofs.YtnkheejpmkflaaaDoor.Dx
