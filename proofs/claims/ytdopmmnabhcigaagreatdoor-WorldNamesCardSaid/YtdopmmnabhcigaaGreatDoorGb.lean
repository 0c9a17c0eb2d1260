/- What is proved: plain facts on texts and their tokens: how long a blank, a name, a number, a quote, a sign is; the tokens of a text without its pairs. (and what stands with it) -/
import Derived.Lib.CountLaws
import Derived.Lib.Bytealg
import Derived.Test.YtdopmmnabhcigaaGreatDoorGa

/- What is proved: plain facts on texts and their tokens: how long a blank, a name, a number, a quote, a sign is; the tokens of a text without its pairs. -/
namespace Go.Proofs.YtdopmmnabhcigaaGreatDoor.Lx
open Go.Lib
open Sp (Ch)

def letter (c : UInt8) : Bool := (97 ≤ c && c ≤ 122) || (65 ≤ c && c ≤ 90) || c == 95
def digit (c : UInt8) : Bool := 48 ≤ c && c ≤ 57
def alnum (c : UInt8) : Bool := letter c || digit c
def numc (c : UInt8) : Bool := letter c || digit c || c == 46
def isE (c : UInt8) : Bool := c == 101 || c == 69 || c == 112 || c == 80
def isSg (c : UInt8) : Bool := c == 43 || c == 45
def isBl (c : UInt8) : Bool := c == 32 || c == 9 || c == 11 || c == 12 || c == 13

/-- How many letters and digits a text begins with. -/
def wordLen (l : List UInt8) : Nat := (l.takeWhile alnum).length

/-- How long a number goes on. -/
def numRest : List UInt8 → Nat
  | [] => 0
  | [c] => if numc c then 1 else 0
  | c :: d :: r => if isE c && isSg d then 2 + numRest r else if numc c then 1 + numRest (d :: r) else 0

def headDigit : List UInt8 → Bool
  | [] => false
  | c :: _ => digit c

/-- How long the number is with which a text begins. -/
def numLen : List UInt8 → Nat
  | [] => 0
  | c :: r => if digit c || (c == 46 && headDigit r) then 1 + numRest r else 0

/-- How far the second quote stands. -/
def qr (q : UInt8) : List UInt8 → Option Nat
  | [] => none
  | [c] => if c = 10 then none else if c = q then some 1 else none
  | c :: d :: r => if c = 10 then none else if c = q then some 1 else if c = 92 then (if d = 10 then none else (qr q r).map (· + 2)) else (qr q (d :: r)).map (· + 1)

/-- How long what a place n and a quote so far behind it come to is. -/
def upto (n : Nat) : Option Nat → Nat
  | none => 0
  | some m => n + m

/-- How long what stands between two quotes is, with them. -/
def closedLen (q : UInt8) : List UInt8 → Nat
  | [] => 0
  | c :: r => if c = q then upto 1 (qr q r) else 0

/-- The signs, in the order in which the program's table has them. -/
def threes : List (List UInt8) := [[46, 46, 46], [60, 60, 61], [62, 62, 61]]
def twos : List (List UInt8) :=
  [[45, 62], [43, 43], [45, 45], [60, 60], [62, 62], [60, 61], [62, 61], [61, 61], [33, 61], [38, 38], [124, 124],
   [42, 61], [47, 61], [37, 61], [43, 61], [45, 61], [38, 61], [94, 61], [124, 61], [35, 35]]
def oneBytes : List UInt8 := [91, 93, 40, 41, 123, 125, 46, 38, 42, 43, 45, 126, 33, 47, 37, 60, 62, 94, 124, 63, 58, 59, 61, 44, 35]
def ones : List (List UInt8) := oneBytes.map fun c => [c]
def signTab : List (List UInt8) := threes ++ twos ++ ones

def signStep (l : List UInt8) (acc : Nat) (s : List UInt8) : Nat := if acc < s.length ∧ s.isPrefixOf l = true then s.length else acc
/-- How long the longest sign is with which a text begins. -/
def signLen (l : List UInt8) : Nat := signTab.foldl (signStep l) 0
def refSign (l : List UInt8) : Nat := if threes.any (·.isPrefixOf l) then 3 else if twos.any (·.isPrefixOf l) then 2 else if ones.any (·.isPrefixOf l) then 1 else 0

theorem fold_uniform (l : List UInt8) (k : Nat) (L : List (List UInt8)) (h : ∀ s ∈ L, s.length = k) : ∀ acc, L.foldl (signStep l) acc = if k ≤ acc then acc else if L.any (·.isPrefixOf l) then k else acc := by
  induction L with
  | nil => intro acc; simp
  | cons s L ih =>
    intro acc
    have hs := h s (by simp)
    have hL := fun s' hs' => h s' (List.mem_cons_of_mem _ hs')
    rw [List.foldl_cons, ih hL, List.any_cons]
    unfold signStep
    rw [hs]
    by_cases h1 : k ≤ acc
    · have e : ¬ (acc < k ∧ s.isPrefixOf l = true) := fun h => by omega
      rw [if_neg e, if_pos h1, if_pos h1]
    · by_cases h2 : s.isPrefixOf l = true
      · have e : acc < k ∧ s.isPrefixOf l = true := ⟨by omega, h2⟩
        rw [if_pos e, if_pos (Nat.le_refl _), if_neg h1, h2, Bool.true_or, if_pos rfl]
      · have e : ¬ (acc < k ∧ s.isPrefixOf l = true) := fun h => h2 h.2
        rw [if_neg e, if_neg h1, if_neg h1, Bool.eq_false_iff.2 h2, Bool.false_or]

theorem sign_ref (l : List UInt8) : signLen l = refSign l := by
  unfold signLen signTab refSign
  rw [List.foldl_append, List.foldl_append, fold_uniform l 3 threes (by decide), fold_uniform l 2 twos (by decide), fold_uniform l 1 ones (by decide)]
  by_cases h3 : threes.any (·.isPrefixOf l) = true
  · simp [h3]
  · by_cases h2 : twos.any (·.isPrefixOf l) = true
    · simp [h3, h2]
    · by_cases h1 : ones.any (·.isPrefixOf l) = true
      · simp [h3, h2, h1]
      · simp [h3, h2, h1]

/-- How many bytes there are up to the next line end. -/
def lineLen (l : List UInt8) : Nat := (l.takeWhile (· ≠ 10)).length
/-- Where a comment's end begins. -/
def clos : List UInt8 → Option Nat
  | [] => none
  | [_] => none
  | c :: d :: r => if c = 42 ∧ d = 47 then some 0 else (clos (d :: r)).map (· + 1)

/-- How long the comment is with which a text begins. -/
def commentLen : List UInt8 → Nat
  | [] => 0
  | [_] => 0
  | c :: d :: r => if c = 47 ∧ d = 47 then lineLen (c :: d :: r) else if c = 47 ∧ d = 42 then upto 4 (clos r) else 0

/-- How long the blank is with which a text begins. -/
def blankLen : List UInt8 → Nat
  | [] => 0
  | c :: r => if isBl c then 1 else commentLen (c :: r)

/-- The kind and the length of the token with which a text begins. -/
def first : List UInt8 → Nat × Nat
  | [] => (6, 1)
  | c :: r =>
    if c = 10 then (7, 1) else if letter c then (1, wordLen (c :: r)) else if 0 < numLen (c :: r) then (2, numLen (c :: r)) else
    if 0 < closedLen 34 (c :: r) then (4, closedLen 34 (c :: r)) else if 2 < closedLen 39 (c :: r) then (3, closedLen 39 (c :: r)) else
    if 0 < signLen (c :: r) then (5, signLen (c :: r)) else (6, 1)

theorem numLen_cons (c : UInt8) (r : List UInt8) : numLen (c :: r) = if digit c || (c == 46 && headDigit r) then 1 + numRest r else 0 := rfl
theorem closedLen_cons (q c : UInt8) (r : List UInt8) : closedLen q (c :: r) = if c = q then upto 1 (qr q r) else 0 := rfl
theorem commentLen_cons (c d : UInt8) (r : List UInt8) : commentLen (c :: d :: r) = if c = 47 ∧ d = 47 then lineLen (c :: d :: r) else if c = 47 ∧ d = 42 then upto 4 (clos r) else 0 := rfl
theorem blankLen_cons (c : UInt8) (r : List UInt8) : blankLen (c :: r) = if isBl c then 1 else commentLen (c :: r) := rfl
theorem first_cons (c : UInt8) (r : List UInt8) : first (c :: r) =
    if c = 10 then (7, 1) else if letter c then (1, wordLen (c :: r)) else if 0 < numLen (c :: r) then (2, numLen (c :: r)) else
    if 0 < closedLen 34 (c :: r) then (4, closedLen 34 (c :: r)) else if 2 < closedLen 39 (c :: r) then (3, closedLen 39 (c :: r)) else
    if 0 < signLen (c :: r) then (5, signLen (c :: r)) else (6, 1) := rfl
/-! How long each can be. -/
theorem wordLen_le (l : List UInt8) : wordLen l ≤ l.length := by
  unfold wordLen; exact (List.takeWhile_sublist _).length_le
theorem numRest_le : ∀ (l : List UInt8), numRest l ≤ l.length
  | [] => by simp [numRest]
  | [c] => by unfold numRest; split <;> simp
  | c :: d :: r => by
    have h1 := numRest_le r
    have h2 := numRest_le (d :: r)
    unfold numRest
    split
    · simp; omega
    · split
      · simp at h2 ⊢; omega
      · simp
theorem numLen_le (l : List UInt8) : numLen l ≤ l.length := by
  cases l with
  | nil => simp [numLen]
  | cons c r =>
    have := numRest_le r
    rw [numLen_cons]
    split
    · simp; omega
    · simp
theorem qr_le (q : UInt8) : ∀ (l : List UInt8) (m : Nat), qr q l = some m → 1 ≤ m ∧ m ≤ l.length
  | [], m, h => by simp [qr] at h
  | [c], m, h => by
    unfold qr at h
    split at h
    · cases h
    · split at h
      · injection h with h; subst h; simp
      · cases h
  | c :: d :: r, m, h => by
    unfold qr at h
    split at h
    · cases h
    · split at h
      · injection h with h; subst h; simp
      · split at h
        · split at h
          · cases h
          · obtain ⟨k, hk, rfl⟩ := Option.map_eq_some_iff.1 h
            have := qr_le q r k hk
            simp; omega
        · obtain ⟨k, hk, rfl⟩ := Option.map_eq_some_iff.1 h
          have := qr_le q (d :: r) k hk
          simp at this ⊢; omega
theorem closedLen_le (q : UInt8) (l : List UInt8) : closedLen q l ≤ l.length ∧ (0 < closedLen q l → 2 ≤ closedLen q l) := by
  cases l with
  | nil => simp [closedLen]
  | cons c r =>
    rw [closedLen_cons]
    split
    · cases h : qr q r with
      | none => simp [upto]
      | some m =>
        have := qr_le q r m h
        simp [upto]; omega
    · simp
theorem refSign_le (l : List UInt8) : refSign l ≤ l.length := by
  have key : ∀ (L : List (List UInt8)) (k : Nat), (∀ s ∈ L, s.length = k) → L.any (·.isPrefixOf l) = true → k ≤ l.length := by
    intro L k hk h
    obtain ⟨s, hs, hp⟩ := List.any_eq_true.1 h
    rw [← hk s hs]
    exact (List.isPrefixOf_iff_prefix.1 hp).length_le
  unfold refSign
  split
  · exact key threes 3 (by decide) (by assumption)
  · split
    · exact key twos 2 (by decide) (by assumption)
    · split
      · exact key ones 1 (by decide) (by assumption)
      · omega
theorem signLen_le (l : List UInt8) : signLen l ≤ l.length := by rw [sign_ref]; exact refSign_le l
theorem signLen_le3 (l : List UInt8) : signLen l ≤ 3 := by
  rw [sign_ref]; unfold refSign
  split
  · omega
  · split
    · omega
    · split <;> omega

theorem wordLen_pos (c : UInt8) (r : List UInt8) (h : letter c = true) : 0 < wordLen (c :: r) := by
  unfold wordLen; rw [List.takeWhile_cons, if_pos (by simp [alnum, h])]; simp

theorem first_le (l : List UInt8) (h : l ≠ []) : 0 < (first l).2 ∧ (first l).2 ≤ l.length := by
  cases l with
  | nil => exact absurd rfl h
  | cons c r =>
    have h1 := wordLen_le (c :: r)
    have h2 := numLen_le (c :: r)
    have h3 := closedLen_le 34 (c :: r)
    have h4 := closedLen_le 39 (c :: r)
    have h5 := signLen_le (c :: r)
    have h6 : 1 ≤ (c :: r).length := by simp
    rw [first_cons]
    split
    · exact ⟨by simp, h6⟩
    · split
      · exact ⟨wordLen_pos c r (by assumption), h1⟩
      · split
        · rename_i h; exact ⟨h, h2⟩
        · split
          · rename_i h; exact ⟨h, h3.1⟩
          · split
            · rename_i h; exact ⟨Nat.lt_trans (by omega) h, h4.1⟩
            · split
              · rename_i h; dsimp only; exact ⟨h, h5⟩
              · exact ⟨by simp, h6⟩

theorem clos_le : ∀ (l : List UInt8) (m : Nat), clos l = some m → m + 2 ≤ l.length
  | [], m, h => by simp [clos] at h
  | [c], m, h => by simp [clos] at h
  | c :: d :: r, m, h => by
    unfold clos at h
    split at h
    · injection h with h; subst h; simp
    · obtain ⟨k, hk, rfl⟩ := Option.map_eq_some_iff.1 h
      have := clos_le (d :: r) k hk
      simp at this ⊢; omega
theorem lineLen_le (l : List UInt8) : lineLen l ≤ l.length := by
  unfold lineLen; exact (List.takeWhile_sublist _).length_le
theorem commentLen_le (l : List UInt8) : commentLen l ≤ l.length := by
  match l with
  | [] => simp [commentLen]
  | [_] => simp [commentLen]
  | c :: d :: r =>
    rw [commentLen_cons]
    split
    · exact lineLen_le _
    · split
      · cases h : clos r with
        | none => simp [upto]
        | some m => have := clos_le r m h; simp [upto]; omega
      · simp
theorem blankLen_le (l : List UInt8) : blankLen l ≤ l.length := by
  cases l with
  | nil => simp [blankLen]
  | cons c r =>
    rw [blankLen_cons]
    split
    · simp
    · exact commentLen_le _
theorem blankLen_nil : blankLen [] = 0 := rfl

/-- A token: its kind, its text, from where to where it stands, whether a blank stands ahead. -/
structure T where
  kind : Nat
  text : List UInt8
  fr : Nat
  to : Nat
  bl : Bool
instance : DecidableEq T := fun a b => decidable_of_iff (a.kind = b.kind ∧ a.text = b.text ∧ a.fr = b.fr ∧ a.to = b.to ∧ a.bl = b.bl) ⟨fun h => by
  obtain ⟨a1, a2, a3, a4, a5⟩ := a
  obtain ⟨b1, b2, b3, b4, b5⟩ := b
  obtain ⟨h1, h2, h3, h4, h5⟩ := h
  dsimp only at h1 h2 h3 h4 h5
  rw [h1, h2, h3, h4, h5], fun h => by rw [h]; exact ⟨rfl, rfl, rfl, rfl, rfl⟩⟩

def bytes (l : List Ch) : List UInt8 := l.map Prod.fst
theorem bytes_length (l : List Ch) : (bytes l).length = l.length := by simp [bytes]
theorem bytes_drop (l : List Ch) (n : Nat) : bytes (l.drop n) = (bytes l).drop n := by simp [bytes, List.map_drop]
theorem bytes_take (l : List Ch) (n : Nat) : bytes (l.take n) = (bytes l).take n := by simp [bytes, List.map_take]
theorem bytes_nil {l : List Ch} (h : bytes l = []) : l = [] := by simpa [bytes] using h

/-- The token with which a text begins. -/
def tokAt (p : Bool) (l : List Ch) : T := ⟨(first (bytes l)).1, (bytes l).take (first (bytes l)).2, (l.getD 0 (0, 0)).2, (l.getD ((first (bytes l)).2 - 1) (0, 0)).2 + 1, p⟩

def toks : Nat → Bool → List Ch → List T
  | 0, _, _ => []
  | _ + 1, _, [] => []
  | f + 1, p, x :: r => if 0 < blankLen (bytes (x :: r)) then toks f true ((x :: r).drop (blankLen (bytes (x :: r)))) else tokAt p (x :: r) :: toks f false ((x :: r).drop (first (bytes (x :: r))).2)

/-- The tokens of what is left of a text, a blank ahead of it or not. -/
def tk (p : Bool) (l : List Ch) : List T := toks l.length p l

theorem toks_nil (f : Nat) (p : Bool) : toks f p [] = [] := by cases f <;> rfl
theorem first_len (l : List Ch) (h : l ≠ []) : 0 < (first (bytes l)).2 ∧ (first (bytes l)).2 ≤ l.length := by
  have := first_le (bytes l) (fun e => h (bytes_nil e))
  rwa [bytes_length] at this
theorem blank_len (l : List Ch) : blankLen (bytes l) ≤ l.length := by
  have := blankLen_le (bytes l)
  rwa [bytes_length] at this

theorem toks_enough : ∀ (n f g : Nat) (p : Bool) (l : List Ch), l.length ≤ n → n ≤ f → n ≤ g → toks f p l = toks g p l := by
  intro n
  induction n with
  | zero =>
    intro f g p l h _ _
    obtain rfl : l = [] := List.length_eq_zero_iff.1 (by omega)
    rw [toks_nil, toks_nil]
  | succ n ih =>
    intro f g p l h hf hg
    match l, f, g, hf, hg with
    | [], f, g, _, _ => rw [toks_nil, toks_nil]
    | x :: r, f + 1, g + 1, hf, hg =>
      have h1 := first_len (x :: r) (by simp)
      unfold toks
      split
      · refine ih _ _ _ _ ?_ (by omega) (by omega)
        rw [List.length_drop]; simp at h ⊢; omega
      · congr 1
        refine ih _ _ _ _ ?_ (by omega) (by omega)
        rw [List.length_drop]; simp at h ⊢; omega

theorem tk_nil (p : Bool) : tk p [] = [] := rfl
theorem tk_blank (p : Bool) (l : List Ch) (h : 0 < blankLen (bytes l)) : tk p l = tk true (l.drop (blankLen (bytes l))) := by
  cases l with
  | nil => simp [bytes, blankLen] at h
  | cons x r =>
    unfold tk
    rw [List.length_cons]
    conv => lhs; unfold toks
    rw [if_pos h]
    refine toks_enough _ _ _ _ _ (Nat.le_refl _) ?_ (Nat.le_refl _)
    rw [List.length_drop]; simp; omega
theorem tk_tok (p : Bool) (l : List Ch) (hl : l ≠ []) (h : blankLen (bytes l) = 0) : tk p l = tokAt p l :: tk false (l.drop (first (bytes l)).2) := by
  have h1 := first_len l hl
  cases l with
  | nil => exact absurd rfl hl
  | cons x r =>
    unfold tk
    rw [List.length_cons]
    conv => lhs; unfold toks
    rw [if_neg (by omega)]
    congr 1
    refine toks_enough _ _ _ _ _ (Nat.le_refl _) ?_ (Nat.le_refl _)
    rw [List.length_drop]; simp; omega

/-- An induction over what is left of a text, step by step. -/
theorem tkInd {M : Bool → List Ch → Prop} (h0 : ∀ p, M p []) (hb : ∀ p l, 0 < blankLen (bytes l) → M true (l.drop (blankLen (bytes l))) → M p l)
    (ht : ∀ p l, l ≠ [] → blankLen (bytes l) = 0 → M false (l.drop (first (bytes l)).2) → M p l) : ∀ p l, M p l := by
  have : ∀ n p (l : List Ch), l.length ≤ n → M p l := by
    intro n
    induction n with
    | zero => intro p l hl; obtain rfl : l = [] := List.length_eq_zero_iff.1 (by omega); exact h0 p
    | succ n ih =>
      intro p l hl
      by_cases he : l = []
      · rw [he]; exact h0 p
      · have h1 := first_len l he
        by_cases hk : 0 < blankLen (bytes l)
        · exact hb p l hk (ih _ _ (by rw [List.length_drop]; omega))
        · exact ht p l he (by omega) (ih _ _ (by rw [List.length_drop]; omega))
  exact fun p l => this _ p l (Nat.le_refl _)

/-- What of a token does not say where it stands. -/
def al (t : T) : Nat × List UInt8 × Bool := (t.kind, t.text, t.bl)
theorem al_congr : ∀ (p : Bool) (l : List Ch), ∀ l', bytes l = bytes l' → (tk p l).map al = (tk p l').map al := by
  refine tkInd ?_ ?_ ?_
  · intro p l' h
    rw [bytes_nil h.symm]
  · intro p l hb ih l' h
    rw [tk_blank p l hb, tk_blank p l' (by rw [← h]; exact hb), ← h]
    exact ih _ (by rw [bytes_drop, bytes_drop, h])
  · intro p l hl hb ih l' h
    have hl' : l' ≠ [] := fun e => hl (bytes_nil (by rw [h, e]; rfl))
    rw [tk_tok p l hl hb, tk_tok p l' hl' (by rw [← h]; exact hb), List.map_cons, List.map_cons, ← h]
    congr 1
    · simp [al, tokAt, h]
    · exact ih _ (by rw [bytes_drop, bytes_drop, h])

/-- The tokens of bytes, but for where they stand. -/
def tb (p : Bool) (b : List UInt8) : List (Nat × List UInt8 × Bool) := (tk p (b.map fun c => (c, 0))).map al
theorem bytes_zero (b : List UInt8) : bytes (b.map fun c => (c, 0)) = b := by
  unfold bytes
  rw [List.map_map]
  exact List.map_id'' (fun _ => rfl) b
theorem tk_al (p : Bool) (l : List Ch) : (tk p l).map al = tb p (bytes l) := al_congr p l _ (bytes_zero _).symm
theorem tb_nil (p : Bool) : tb p [] = [] := rfl
theorem tb_blank (p : Bool) (b : List UInt8) (h : 0 < blankLen b) : tb p b = tb true (b.drop (blankLen b)) := by
  unfold tb
  rw [tk_blank p _ (by rw [bytes_zero]; exact h), bytes_zero, List.map_drop]
theorem tb_tok (p : Bool) (b : List UInt8) (hb : b ≠ []) (h : blankLen b = 0) : tb p b = ((first b).1, b.take (first b).2, p) :: tb false (b.drop (first b).2) := by
  unfold tb
  rw [tk_tok p _ (by simpa using hb) (by rw [bytes_zero]; exact h), List.map_cons, bytes_zero, List.map_drop]
  congr 1
  simp [al, tokAt, bytes_zero]
theorem tbInd {M : Bool → List UInt8 → Prop} (h0 : ∀ p, M p []) (hb : ∀ p l, 0 < blankLen l → M true (l.drop (blankLen l)) → M p l)
    (ht : ∀ p l, l ≠ [] → blankLen l = 0 → M false (l.drop (first l).2) → M p l) : ∀ p l, M p l := by
  have := tkInd (M := fun p l => M p (bytes l)) h0 (fun p l h ih => hb p _ h (by rwa [bytes_drop] at ih)) (fun p l hl h ih => ht p _ (fun e => hl (bytes_nil e)) h (by rwa [bytes_drop] at ih))
  intro p l
  have := this p (l.map fun c => (c, 0))
  rwa [bytes_zero] at this

/-- What is printed. -/
def prA (ts : List (Nat × List UInt8 × Bool)) : List UInt8 := ts.flatMap fun t => (if t.2.2 then [32] else []) ++ t.2.1
def pr (ts : List T) : List UInt8 := prA (ts.map al)
theorem pr_nil : pr [] = [] := rfl
theorem pr_snoc (a : List T) (t : T) : pr (a ++ [t]) = pr a ++ ((if t.bl then [32] else []) ++ t.text) := by
  simp [pr, prA, al]
theorem prA_cons (t : Nat × List UInt8 × Bool) (r : List (Nat × List UInt8 × Bool)) : prA (t :: r) = (if t.2.2 then [32] else []) ++ t.2.1 ++ prA r := by
  simp [prA]

/-- So many bytes of blanks, one behind the other. -/
def skipsN : Nat → List UInt8 → Nat → Prop
  | 0, _, m => m = 0
  | n + 1, b, m => m = 0 ∨ (0 < blankLen b ∧ ∃ m', m = blankLen b + m' ∧ skipsN n (b.drop (blankLen b)) m')
def Skips (b : List UInt8) (m : Nat) : Prop := ∃ n, skipsN n b m
theorem Skips.none (b : List UInt8) : Skips b 0 := ⟨0, rfl⟩
theorem Skips.more (b : List UInt8) (m : Nat) (h : 0 < blankLen b) (r : Skips (b.drop (blankLen b)) m) : Skips b (blankLen b + m) := by
  obtain ⟨n, hn⟩ := r
  exact ⟨n + 1, .inr ⟨h, m, rfl, hn⟩⟩

/-- The first token behind blanks, and the rest. -/
theorem tk_cons : ∀ (p : Bool) (l : List Ch), ∀ x rest, tk p l = x :: rest → ∃ m, Skips (bytes l) m ∧ m < l.length ∧ x = tokAt (p || decide (0 < m)) (l.drop m) ∧ rest = tk false (l.drop (m + (first (bytes (l.drop m))).2)) := by
  refine tkInd ?_ ?_ ?_
  · intro p x rest h; simp [tk_nil] at h
  · intro p l hb ih x rest h
    rw [tk_blank p l hb] at h
    obtain ⟨m, h1, h2, h3, h4⟩ := ih x rest h
    have hle := blank_len l
    rw [List.length_drop] at h2
    refine ⟨blankLen (bytes l) + m, ?_, by omega, ?_, ?_⟩
    · exact Skips.more _ _ hb (by rwa [bytes_drop] at h1)
    · have e : (p || decide (0 < blankLen (bytes l) + m)) = true := by rw [decide_eq_true (by omega)]; simp
      rw [h3, List.drop_drop, e, Bool.true_or]
    · rw [h4, List.drop_drop, List.drop_drop]
      congr 2
      omega
  · intro p l hl hb _ x rest h
    rw [tk_tok p l hl hb] at h
    injection h with h1 h2
    refine ⟨0, Skips.none _, List.length_pos_iff.2 hl, ?_, ?_⟩
    · rw [← h1]; simp
    · rw [← h2]; simp

/-! A blank is the same where what is behind it is cut off. -/
theorem takeWhile_take (q : UInt8 → Bool) : ∀ (l : List UInt8) (j : Nat), (l.takeWhile q).length ≤ j → ((l.take j).takeWhile q).length = (l.takeWhile q).length
  | [], j, _ => by simp
  | c :: r, 0, h => by
    by_cases hc : q c = true
    · rw [List.takeWhile_cons, if_pos hc] at h; simp at h
    · rw [List.takeWhile_cons, if_neg hc]; simp
  | c :: r, j + 1, h => by
    by_cases hc : q c = true
    · rw [List.takeWhile_cons, if_pos hc] at h ⊢
      rw [List.take_succ_cons, List.takeWhile_cons, if_pos hc, List.length_cons, List.length_cons, takeWhile_take q r j (by simpa using h)]
    · rw [List.take_succ_cons, List.takeWhile_cons, if_neg hc, List.takeWhile_cons, if_neg hc]
theorem clos_take : ∀ (l : List UInt8) (m j : Nat), clos l = some m → m + 2 ≤ j → clos (l.take j) = some m
  | [], m, j, h, _ => by simp [clos] at h
  | [c], m, j, h, _ => by simp [clos] at h
  | c :: d :: r, m, j, h, hj => by
    unfold clos at h
    obtain ⟨j, rfl⟩ : ∃ i, j = i + 2 := ⟨j - 2, by omega⟩
    rw [List.take_succ_cons, List.take_succ_cons]
    unfold clos
    split at h
    · injection h with h; subst h
      rename_i hc
      rw [if_pos hc]
    · rename_i hc
      rw [if_neg hc]
      obtain ⟨k, hk, rfl⟩ := Option.map_eq_some_iff.1 h
      have := clos_take (d :: r) k (j + 1) hk (by omega)
      rw [List.take_succ_cons] at this
      rw [this]; rfl
theorem blankLen_take (b : List UInt8) (j : Nat) (h : 0 < blankLen b) (hj : blankLen b ≤ j) : blankLen (b.take j) = blankLen b := by
  cases b with
  | nil => simp [blankLen] at h
  | cons c r =>
    obtain ⟨j, rfl⟩ : ∃ i, j = i + 1 := ⟨j - 1, by omega⟩
    rw [List.take_succ_cons]
    rw [blankLen_cons] at h hj
    rw [blankLen_cons, blankLen_cons]
    split at h
    · rename_i hc; rw [if_pos hc, if_pos hc]
    · rename_i hc
      rw [if_neg hc] at hj ⊢
      rw [if_neg hc]
      match r, h, hj with
      | [], h, _ => simp [commentLen] at h
      | d :: r, h, hj =>
        rw [commentLen_cons] at h hj
        split at h
        · rename_i hcd
          rw [if_pos hcd] at hj
          have h2 : 2 ≤ lineLen (c :: d :: r) := by
            unfold lineLen
            rw [List.takeWhile_cons, if_pos (by rw [hcd.1]; decide), List.takeWhile_cons, if_pos (by rw [hcd.2]; decide)]
            simp
          obtain ⟨j, rfl⟩ : ∃ i, j = i + 1 := ⟨j - 1, by omega⟩
          rw [List.take_succ_cons]
          rw [commentLen_cons, commentLen_cons, if_pos hcd, if_pos hcd]
          have := takeWhile_take (· ≠ 10) (c :: d :: r) (j + 2) hj
          rw [List.take_succ_cons, List.take_succ_cons] at this
          exact this
        · rename_i hcd
          rw [if_neg hcd] at hj
          split at h
          · rename_i hcs
            rw [if_pos hcs] at hj
            cases hk : clos r with
            | none => rw [hk] at h; simp [upto] at h
            | some m =>
              rw [hk] at hj
              simp only [upto] at hj
              obtain ⟨j, rfl⟩ : ∃ i, j = i + 1 := ⟨j - 1, by omega⟩
              rw [List.take_succ_cons]
              rw [commentLen_cons, commentLen_cons, if_neg hcd, if_neg hcd, if_pos hcs, if_pos hcs, hk, clos_take r m j hk (by omega)]
          · simp at h

/-- Of blanks alone come no tokens. -/
theorem skips_none {b : List UInt8} {m : Nat} (h : Skips b m) : ∀ p (l : List Ch), bytes l = b.take m → m ≤ b.length → tk p l = [] := by
  obtain ⟨n, hn⟩ := h
  induction n generalizing b m with
  | zero =>
    intro p l hl _
    have hm : m = 0 := hn
    subst hm
    obtain rfl : l = [] := bytes_nil (by rw [hl]; rfl)
    rfl
  | succ n ih =>
    intro p l hl hm
    rcases hn with rfl | ⟨hb, m', rfl, hr⟩
    · obtain rfl : l = [] := bytes_nil (by rw [hl]; rfl)
      rfl
    · have e : blankLen (bytes l) = blankLen b := by rw [hl]; exact blankLen_take b _ hb (by omega)
      rw [tk_blank p l (by omega), e]
      refine ih hr _ _ ?_ (by rw [List.length_drop]; omega)
      rw [bytes_drop, hl, List.drop_take]
      congr 1
      omega

theorem tk_none {l l' : List Ch} {p : Bool} (h : tk p l = []) (e : bytes l' = bytes l) : tk p l' = [] := by
  have := al_congr p l l' e.symm
  rw [h] at this
  simpa using this.symm
end Go.Proofs.YtdopmmnabhcigaaGreatDoor.Lx
