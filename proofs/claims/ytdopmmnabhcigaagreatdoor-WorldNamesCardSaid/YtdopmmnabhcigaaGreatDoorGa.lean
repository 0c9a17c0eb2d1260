/- What is proved: plain facts on texts, on what is left of one without its pairs, and on texts into which pairs are put. (and what stands with it) -/
import Derived.Lib.CountLaws

/- What is proved: plain facts on texts, on what is left of one without its pairs, and on texts into which pairs are put. -/
namespace Go.Proofs.YtdopmmnabhcigaaGreatDoor.Sp
open Go.Lib

/-- A byte of a text, and its place. -/
abbrev Ch := UInt8 × Nat

/-- What is left of a text that begins at place k: each byte with its place. -/
def left : Nat → List UInt8 → List Ch
  | _, [] => []
  | k, [c] => [(c, k)]
  | k, c :: d :: r => if c = 92 ∧ d = 10 then left (k + 2) r else (c, k) :: left (k + 1) (d :: r)

theorem left_nil (k : Nat) : left k [] = [] := rfl
theorem left_single (k : Nat) (c : UInt8) : left k [c] = [(c, k)] := rfl
theorem left_cons (k : Nat) (c d : UInt8) (r : List UInt8) : left k (c :: d :: r) = if c = 92 ∧ d = 10 then left (k + 2) r else (c, k) :: left (k + 1) (d :: r) := rfl
theorem left_pair (k : Nat) (r : List UInt8) : left k (92 :: 10 :: r) = left (k + 2) r := by
  have e : left k (92 :: 10 :: r) = if (92 : UInt8) = 92 ∧ (10 : UInt8) = 10 then left (k + 2) r else (92, k) :: left (k + 1) (10 :: r) := rfl
  rw [e, if_pos ⟨rfl, rfl⟩]
theorem pair_iff (c d : UInt8) (r : List UInt8) : hasPrefix (c :: d :: r) [92, 10] = true ↔ c = 92 ∧ d = 10 := by
  show List.isPrefixOf [92, 10] (c :: d :: r) = true ↔ _
  simp only [List.isPrefixOf, Bool.and_true, Bool.and_eq_true, beq_iff_eq]
  exact ⟨fun h => ⟨h.1.symm, h.2.symm⟩, fun h => ⟨h.1.symm, h.2.symm⟩⟩
theorem pair_one (c : UInt8) : hasPrefix [c] [92, 10] = false := by simp [hasPrefix, List.isPrefixOf]
theorem pair_nil : hasPrefix [] [92, 10] = false := rfl
theorem left_one (k : Nat) (c : UInt8) (r : List UInt8) (h : hasPrefix (c :: r) [92, 10] = false) : left k (c :: r) = (c, k) :: left (k + 1) r := by
  cases r with
  | nil => rfl
  | cons d r =>
    have h' : ¬ (c = 92 ∧ d = 10) := fun e => by rw [(pair_iff c d r).2 e] at h; cases h
    rw [left_cons, if_neg h']
theorem pair_form (l : List UInt8) (h : hasPrefix l [92, 10] = true) : ∃ r, l = 92 :: 10 :: r := by
  match l, h with
  | [], h => rw [pair_nil] at h; cases h
  | [c], h => rw [pair_one] at h; cases h
  | c :: d :: r, h => obtain ⟨rfl, rfl⟩ := (pair_iff c d r).1 h; exact ⟨r, rfl⟩

/-- An induction over a text by what stands at its head. -/
theorem ind {M : List UInt8 → Prop} (h0 : M []) (hp : ∀ r, M r → M (92 :: 10 :: r)) (h1 : ∀ c r, hasPrefix (c :: r) [92, 10] = false → M r → M (c :: r)) (l : List UInt8) : M l := by
  have : ∀ n (l : List UInt8), l.length ≤ n → M l := by
    intro n
    induction n with
    | zero => intro l hl; obtain rfl : l = [] := List.length_eq_zero_iff.1 (by omega); exact h0
    | succ n ih =>
      intro l hl
      cases l with
      | nil => exact h0
      | cons c r =>
        cases hq : hasPrefix (c :: r) [92, 10] with
        | true =>
          obtain ⟨r', e⟩ := pair_form _ hq
          rw [e] at hl ⊢
          exact hp r' (ih r' (by simp at hl; omega))
        | false => exact h1 c r hq (ih r (by simp at hl; omega))
  exact this _ l (Nat.le_refl _)

theorem count_pair (r : List UInt8) : count (92 :: 10 :: r) [92, 10] = 1 + count r [92, 10] := by
  have h : index (92 :: 10 :: r) [92, 10] = ((0 : Nat) : Int) := by simp [index, List.isPrefixOf]
  rw [count_hit (by simp) h]
  simp
theorem count_nil : count [] [92, 10] = 0 := by rfl
theorem count_one (c : UInt8) (r : List UInt8) (h : hasPrefix (c :: r) [92, 10] = false) : count (c :: r) [92, 10] = count r [92, 10] := by
  have hi : index (c :: r) [92, 10] = if index r [92, 10] == -1 then -1 else index r [92, 10] + 1 := by
    rw [index, if_neg (by rw [show List.isPrefixOf [92, 10] (c :: r) = false from h]; simp)]
  have hg := index_ge r [92, 10]
  by_cases he : index r [92, 10] = -1
  · rw [count_miss he, count_miss (by rw [hi, he]; rfl)]
  · obtain ⟨i, hi'⟩ : ∃ i : Nat, index r [92, 10] = i := ⟨(index r [92, 10]).toNat, by omega⟩
    rw [hi'] at hi he
    rw [if_neg (by simp)] at hi
    rw [count_hit (by simp) hi', count_hit (i := i + 1) (by simp) (by rw [hi]; omega)]
    congr 2

/-- Each byte is left, or is one of a pair. -/
theorem left_count (l : List UInt8) : ∀ k, (left k l).length + 2 * count l [92, 10] = l.length := by
  induction l using ind with
  | h0 => intro k; rw [left_nil, count_nil]; rfl
  | hp r ih => intro k; rw [left_pair, count_pair]; have := ih (k + 2); simp; omega
  | h1 c r h ih => intro k; rw [left_one k c r h, count_one c r h]; have := ih (k + 1); simp; omega

theorem left_le (k : Nat) (l : List UInt8) : (left k l).length ≤ l.length := by have := left_count l k; omega

/-- Where a text begins changes its places alone. -/
theorem left_shift (l : List UInt8) : ∀ k m, left (k + m) l = (left k l).map fun x => (x.1, x.2 + m) := by
  induction l using ind with
  | h0 => intro k m; simp [left_nil]
  | hp r ih => intro k m; rw [left_pair, left_pair, show k + m + 2 = k + 2 + m by omega, ih]
  | h1 c r h ih => intro k m; rw [left_one _ c r h, left_one _ c r h, show k + m + 1 = k + 1 + m by omega, ih]; simp

theorem left_fst (k m : Nat) (l : List UInt8) : (left k l).map Prod.fst = (left m l).map Prod.fst := by
  have h1 := left_shift l 0 k
  have h2 := left_shift l 0 m
  rw [Nat.zero_add] at h1 h2
  rw [h1, h2]
  simp

/-- Each byte stands where it is said to. -/
theorem left_at (l : List UInt8) : ∀ k (x : Ch), x ∈ left k l → k ≤ x.2 ∧ l[x.2 - k]? = some x.1 := by
  induction l using ind with
  | h0 => intro k x h; simp [left_nil] at h
  | hp r ih =>
    intro k x h
    rw [left_pair] at h
    obtain ⟨h1, h2⟩ := ih _ x h
    refine ⟨by omega, ?_⟩
    rw [show x.2 - k = x.2 - (k + 2) + 1 + 1 by omega]
    simpa using h2
  | h1 c r hc ih =>
    intro k x h
    rw [left_one k c r hc] at h
    rcases List.mem_cons.1 h with rfl | h
    · simp
    · obtain ⟨h1, h2⟩ := ih _ x h
      refine ⟨by omega, ?_⟩
      rw [show x.2 - k = x.2 - (k + 1) + 1 by omega]
      simpa using h2

theorem left_lt {l : List UInt8} {k : Nat} {x : Ch} (h : x ∈ left k l) : x.2 < k + l.length := by
  obtain ⟨h1, h2⟩ := left_at l k x h
  have := (List.getElem?_eq_some_iff.1 h2).1
  omega

/-- Places rise. -/
theorem left_rise (l : List UInt8) : ∀ k, (left k l).Pairwise fun a b => a.2 < b.2 := by
  induction l using ind with
  | h0 => intro k; simp [left_nil]
  | hp r ih => intro k; rw [left_pair]; exact ih _
  | h1 c r hc ih =>
    intro k
    rw [left_one k c r hc, List.pairwise_cons]
    exact ⟨fun x hx => by have := (left_at r (k + 1) x hx).1; simp; omega, ih _⟩

/-- What is left from one of the bytes on. -/
theorem left_drop (l : List UInt8) : ∀ k i x, (left k l)[i]? = some x → left x.2 (l.drop (x.2 - k)) = (left k l).drop i := by
  induction l using ind with
  | h0 => intro k i x h; simp [left_nil] at h
  | hp r ih =>
    intro k i x h
    rw [left_pair] at h ⊢
    have h1 := (left_at r (k + 2) x (List.mem_of_getElem? h)).1
    rw [show x.2 - k = x.2 - (k + 2) + 1 + 1 by omega]
    simpa using ih _ i x h
  | h1 c r hc ih =>
    intro k i x h
    rw [left_one k c r hc] at h ⊢
    cases i with
    | zero => simp at h; subst h; simp [left_one k c r hc]
    | succ i =>
      simp at h
      have h1 := (left_at r (k + 1) x (List.mem_of_getElem? h)).1
      rw [show x.2 - k = x.2 - (k + 1) + 1 by omega]
      simpa using ih _ i x h

/-- What is left up to one of the bytes. -/
theorem left_take (l : List UInt8) : ∀ k i x, (left k l)[i]? = some x → left k (l.take (x.2 - k + 1)) = (left k l).take (i + 1) := by
  induction l using ind with
  | h0 => intro k i x h; simp [left_nil] at h
  | hp r ih =>
    intro k i x h
    rw [left_pair] at h ⊢
    have h1 := (left_at r (k + 2) x (List.mem_of_getElem? h)).1
    rw [show x.2 - k + 1 = x.2 - (k + 2) + 1 + 1 + 1 by omega, List.take_succ_cons, List.take_succ_cons, left_pair]
    exact ih _ i x h
  | h1 c r hc ih =>
    intro k i x h
    rw [left_one k c r hc] at h ⊢
    cases i with
    | zero =>
      simp at h; subst h
      simp [left_single]
    | succ i =>
      simp at h
      have h1 := (left_at r (k + 1) x (List.mem_of_getElem? h)).1
      have h2 : hasPrefix (c :: r.take (x.2 - (k + 1) + 1)) [92, 10] = false := by
        cases r with
        | nil => simp [left_nil] at h
        | cons d r =>
          rw [List.take_succ_cons]
          cases hq : hasPrefix (c :: d :: List.take (x.2 - (k + 1)) r) [92, 10] with
          | false => rfl
          | true => rw [(pair_iff c d r).2 ((pair_iff c d _).1 hq)] at hc; cases hc
      rw [show x.2 - k + 1 = x.2 - (k + 1) + 1 + 1 by omega, List.take_succ_cons, left_one k c _ h2, ih _ i x h, List.take_succ_cons]

/-- What is left of what a span takes up. -/
theorem left_span (t : List UInt8) (i j : Nat) (x y : Ch) (hij : i ≤ j) (hx : (left 0 t)[i]? = some x) (hy : (left 0 t)[j]? = some y) :
    x.2 ≤ y.2 ∧ (left 0 ((t.drop x.2).take (y.2 + 1 - x.2))).map Prod.fst = (((left 0 t).drop i).take (j + 1 - i)).map Prod.fst := by
  have hd := left_drop t 0 i x hx
  rw [Nat.sub_zero] at hd
  have hy' : (left x.2 (t.drop x.2))[j - i]? = some y := by rw [hd, List.getElem?_drop, show i + (j - i) = j by omega]; exact hy
  have hle := (left_at _ _ y (List.mem_of_getElem? hy')).1
  refine ⟨hle, ?_⟩
  have ht := left_take _ _ _ y hy'
  rw [left_fst 0 x.2, show y.2 + 1 - x.2 = y.2 - x.2 + 1 by omega, ht, hd, show j + 1 - i = j - i + 1 by omega]

/-- So many pairs. -/
def prs : Nat → List UInt8
  | 0 => []
  | n + 1 => 92 :: 10 :: prs n

theorem prs_snoc (n : Nat) : prs n ++ [92, 10] = prs (n + 1) := by
  induction n with
  | zero => rfl
  | succ n ih => rw [prs, prs, List.cons_append, List.cons_append, ih]
theorem prs_length (n : Nat) : (prs n).length = 2 * n := by
  induction n with
  | zero => rfl
  | succ n ih => simp [prs, ih]; omega

/-- The first k bytes of a text, pairs put ahead of each. -/
def spr (s : List UInt8) (f : Nat → Nat) : Nat → List UInt8
  | 0 => []
  | k + 1 => spr s f k ++ (prs (f k) ++ (s[k]?).toList)

/-- A text from its place k on, pairs put ahead of each byte, and behind all. -/
def spread (f : Nat → Nat) : Nat → List UInt8 → List UInt8
  | k, [] => prs (f k)
  | k, c :: r => prs (f k) ++ c :: spread f (k + 1) r

theorem spr_spread (s : List UInt8) (f : Nat → Nat) : ∀ n k, n = s.length - k → k ≤ s.length → spr s f k ++ spread f k (s.drop k) = spr s f (s.length + 1) := by
  intro n
  induction n with
  | zero =>
    intro k hn hk
    obtain rfl : k = s.length := by omega
    rw [List.drop_length, spread, spr]
    simp
  | succ n ih =>
    intro k hn hk
    rw [← ih (k + 1) (by omega) (by omega), List.drop_eq_getElem_cons (by omega), spread, spr, List.getElem?_eq_getElem (by omega)]
    simp

theorem spread_spr (s : List UInt8) (f : Nat → Nat) : spr s f (s.length + 1) = spread f 0 s := by
  have := spr_spread s f _ 0 rfl (Nat.zero_le _)
  simpa [spr] using this.symm

theorem left_prs (n k : Nat) (r : List UInt8) : (left k (prs n ++ r)).map Prod.fst = (left k r).map Prod.fst := by
  induction n generalizing k with
  | zero => rfl
  | succ n ih => rw [prs, List.cons_append, List.cons_append, left_pair, ih, left_fst]

/-- What was spread out is joined again. -/
theorem left_spread (f : Nat → Nat) (s : List UInt8) (h : ∀ c ∈ s, c ≠ 92) : ∀ j k, (left j (spread f k s)).map Prod.fst = s := by
  induction s with
  | nil => intro j k; rw [spread]; have := left_prs (f k) j []; simpa [left_nil] using this
  | cons c r ih =>
    intro j k
    rw [spread, left_prs]
    have hc : hasPrefix (c :: spread f (k + 1) r) [92, 10] = false := by
      cases hq : hasPrefix (c :: spread f (k + 1) r) [92, 10] with
      | false => rfl
      | true =>
        obtain ⟨r', e⟩ := pair_form _ hq
        injection e with e _
        exact absurd e (h c (by simp))
    rw [left_one j c _ hc, List.map_cons, ih (fun c hc => h c (by simp [hc]))]

theorem spr_length (s : List UInt8) (f : Nat → Nat) (B : Nat) (hf : ∀ k, f k ≤ B) (k : Nat) : (spr s f k).length ≤ k * (2 * B + 1) := by
  induction k with
  | zero => simp [spr]
  | succ k ih =>
    have h1 : ((s[k]?).toList).length ≤ 1 := by cases s[k]? <;> simp
    rw [spr, List.length_append, List.length_append, prs_length, Nat.add_mul]
    have := hf k
    omega

/-- How often a number is among the first k of a list. -/
def cnt (ps : List Int) (k i : Nat) : Nat := (ps.take k).count (i : Int)
theorem cnt_zero (ps : List Int) (i : Nat) : cnt ps 0 i = 0 := by simp [cnt]
theorem cnt_succ (ps : List Int) (k i : Nat) (h : k < ps.length) : cnt ps (k + 1) i = cnt ps k i + if ps[k] = (i : Int) then 1 else 0 := by
  unfold cnt
  rw [List.take_succ_eq_append_getElem h, List.count_append, List.count_singleton]
  by_cases e : ps[k] = (i : Int) <;> simp [e]
theorem cnt_le (ps : List Int) (k i : Nat) : cnt ps k i ≤ ps.length := by
  unfold cnt
  exact Nat.le_trans (List.count_le_length) (by simp; omega)
end Go.Proofs.YtdopmmnabhcigaaGreatDoor.Sp
