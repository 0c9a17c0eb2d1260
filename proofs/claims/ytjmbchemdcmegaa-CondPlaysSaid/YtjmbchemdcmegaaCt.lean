/- Plain mathematics: conditionals as trees; the machine that reads lines; what Flat, Depth and Around tell of trees. -/
namespace Go.Proofs.Ytjmbchemdcmegaa
namespace Ct

/-- A list of items, or of branches: a line, an end, what is within, and the rest. -/
inductive T where
  | nil : T
  | cons (l e : Nat) (sub rest : T) : T

namespace T
def len : T → Nat
  | nil => 0
  | cons _ _ _ r => r.len + 1
def app : T → T → T
  | nil, u => u
  | cons l e s r, u => cons l e s (r.app u)
def one (l e : Nat) (s : T) : T := cons l e s nil
def snoc (t : T) (l e : Nat) (s : T) : T := t.app (one l e s)
def sh (o : Nat) : T → T
  | nil => nil
  | cons l e s r => cons (l + o) (e + o) (s.sh o) (r.sh o)
/-- Branches have no end: theirs is 0. -/
def shb (o : Nat) : Bool → T → T
  | _, nil => nil
  | true, cons l e s r => cons (l + o) (e + o) (shb o false s) (shb o true r)
  | false, cons l e s r => cons (l + o) e (shb o true s) (shb o false r)
theorem app_nil (t : T) : t.app nil = t := by induction t <;> simp_all [app]
theorem app_assoc (a b c : T) : (a.app b).app c = a.app (b.app c) := by induction a <;> simp_all [app]
theorem len_app (a b : T) : (a.app b).len = a.len + b.len := by induction a <;> simp_all [app, len]; omega
theorem len_snoc (a : T) (l e : Nat) (s : T) : (a.snoc l e s).len = a.len + 1 := by simp [snoc, one, len_app, len]
theorem len_zero {t : T} (h : t.len = 0) : t = nil := by cases t <;> simp_all [len]
theorem snoc_ne (a : T) (l e : Nat) (s : T) : a.snoc l e s ≠ nil := fun h => by have := len_snoc a l e s; rw [h] at this; simp [len] at this
theorem shb_app (o : Nat) (b : Bool) (x y : T) : shb o b (x.app y) = (shb o b x).app (shb o b y) := by
  induction x generalizing b with
  | nil => simp [app, shb]
  | cons l e s r _ ih => cases b <;> simp [app, shb, ih]
theorem shb_snoc_items (o : Nat) (x : T) (l e : Nat) (s : T) : shb o true (x.snoc l e s) = (shb o true x).snoc (l + o) (e + o) (shb o false s) := by simp [snoc, one, shb_app, shb]
theorem shb_snoc_brs (o : Nat) (x : T) (l e : Nat) (s : T) : shb o false (x.snoc l e s) = (shb o false x).snoc (l + o) e (shb o true s) := by simp [snoc, one, shb_app, shb]
theorem len_shb (o : Nat) (b : Bool) (x : T) : (shb o b x).len = x.len := by
  induction x generalizing b with
  | nil => cases b <;> rfl
  | cons l e s r _ ih => cases b <;> simp [len, shb, ih]
end T
open T

/-- An open conditional: its line, whether it has an Else, its branches that are done, the line of the one that is read, and its items. -/
structure Fm where
  line : Nat
  els : Bool
  dn : T
  b : Nat
  cur : T

abbrev S := T × List Fm

def add (l e : Nat) (s : T) : S → S
  | (out, []) => (out.snoc l e s, [])
  | (out, f :: r) => (out, ⟨f.line, f.els, f.dn, f.b, f.cur.snoc l e s⟩ :: r)

def begins (k : Int) : Bool := k == 2 || k == 3 || k == 4
def parts (k : Int) : Bool := k == 5 || k == 6
def noElse : List Fm → Bool
  | [] => true
  | f :: _ => f.els
def isNil : List Fm → Bool
  | [] => true
  | _ :: _ => false
def wrong (k : Int) (st : List Fm) : Bool := parts k && noElse st || k == 7 && isNil st

def take (i : Nat) (k : Int) (s : S) : S :=
  if begins k then (s.1, ⟨i, false, nil, i, nil⟩ :: s.2)
  else if parts k then
    match s.2 with
    | [] => s
    | f :: r => (s.1, ⟨f.line, k == 6, f.dn.snoc f.b 0 f.cur, i, nil⟩ :: r)
  else if k == 7 then
    match s.2 with
    | [] => s
    | f :: r => add f.line i (f.dn.snoc f.b 0 f.cur) (s.1, r)
  else add i i nil s

/-- The first line that is wrong, or the state behind all. -/
def go : Nat → List Int → S → Nat ⊕ S
  | _, [], s => .inr s
  | i, k :: ks, s => if wrong k s.2 then .inl i else go (i + 1) ks (take i k s)

/-- What is told: the tree, a line, an error. -/
def fin : Nat ⊕ S → T × Nat × Nat
  | .inl i => (nil, i, 50)
  | .inr (_, f :: _) => (nil, f.line, 51)
  | .inr (out, []) => (out, 0, 0)
def parse (ks : List Int) : T × Nat × Nat := fin (go 0 ks (nil, []))

theorem go_append (a b : List Int) : ∀ (i : Nat) (s : S), go i (a ++ b) s = match go i a s with | .inl j => .inl j | .inr s' => go (i + a.length) b s' := by
  induction a with
  | nil => intro i s; simp [go]
  | cons k a ih =>
    intro i s
    simp only [List.cons_append, go, List.length_cons]
    split
    · rfl
    · rw [ih]
      rw [show i + 1 + a.length = i + (a.length + 1) by omega]

theorem go_left (a : List Int) : ∀ (i : Nat) (s : S) (j : Nat), go i a s = .inl j → i ≤ j ∧ j < i + a.length := by
  induction a with
  | nil => intro i s j h; simp [go] at h
  | cons k a ih =>
    intro i s j h
    rw [go] at h
    split at h
    · injection h with h; subst h; simp
    · have := ih _ _ _ h; simp only [List.length_cons]; omega

/-! ### Lines put behind others, or into a conditional -/
def shf (o : Nat) (f : Fm) : Fm := ⟨f.line + o, f.els, shb o false f.dn, f.b + o, shb o true f.cur⟩
/-- A state with another one below it. -/
def emb (o : Nat) (c : S) (s : S) : S :=
  match c.2 with
  | [] => (c.1.app (shb o true s.1), s.2.map (shf o))
  | f :: r => (c.1, s.2.map (shf o) ++ ⟨f.line, f.els, f.dn, f.b, f.cur.app (shb o true s.1)⟩ :: r)

theorem emb_start (o : Nat) (c : S) : emb o c (nil, []) = c := by
  obtain ⟨x, r⟩ := c
  cases r <;> simp [emb, shb, app_nil]

theorem add_emb (o l e : Nat) (s : T) (c x : S) : add (l + o) (e + o) (shb o false s) (emb o c x) = emb o c (add l e s x) := by
  obtain ⟨out, st⟩ := x
  obtain ⟨y, r⟩ := c
  cases r <;> cases st <;> simp [emb, add, shf, snoc, app_assoc, shb_app, one, shb]

theorem take_emb (o i : Nat) (k : Int) (c x : S) (h : wrong k x.2 = false) : take (i + o) k (emb o c x) = emb o c (take i k x) := by
  obtain ⟨out, st⟩ := x
  unfold take
  by_cases hb : begins k
  · rw [if_pos hb, if_pos hb]
    obtain ⟨y, r⟩ := c
    cases r <;> simp [emb, shf, shb]
  · rw [if_neg hb, if_neg hb]
    by_cases hp : parts k
    · rw [if_pos hp, if_pos hp]
      cases st with
      | nil => simp [wrong, hp, noElse] at h
      | cons f st =>
        obtain ⟨y, r⟩ := c
        cases r <;> simp [emb, shf, shb_snoc_brs, shb]
    · rw [if_neg hp, if_neg hp]
      by_cases h7 : k == 7
      · rw [if_pos h7, if_pos h7]
        cases st with
        | nil => simp [wrong, h7, isNil] at h
        | cons f st =>
          have := add_emb o f.line i (f.dn.snoc f.b 0 f.cur) c (out, st)
          rw [shb_snoc_brs] at this
          obtain ⟨y, r⟩ := c
          cases r <;> exact this
      · rw [if_neg h7, if_neg h7]
        exact add_emb o i i nil c (out, st)

theorem wrong_emb (o : Nat) (k : Int) (c x : S) (h : wrong k x.2 = false) : wrong k (emb o c x).2 = false := by
  obtain ⟨out, st⟩ := x
  obtain ⟨y, r⟩ := c
  cases st with
  | nil =>
    simp only [wrong, noElse, isNil, Bool.and_true, Bool.or_eq_false_iff] at h
    simp [wrong, h]
  | cons f st => cases r <;> simpa [emb, shf, wrong, noElse, isNil] using h

theorem wrong_emb_nil (o : Nat) (k : Int) (y : T) (x : S) : wrong k (emb o (y, []) x).2 = wrong k x.2 := by
  obtain ⟨out, st⟩ := x
  cases st <;> simp [emb, shf, wrong, noElse, isNil]

theorem go_emb (o : Nat) (c : S) (ks : List Int) : ∀ (i : Nat) (x y : S), go i ks x = .inr y → go (i + o) ks (emb o c x) = .inr (emb o c y) := by
  induction ks with
  | nil => intro i x y h; simp [go] at h ⊢; rw [h]
  | cons k ks ih =>
    intro i x y h
    rw [go] at h ⊢
    by_cases hw : wrong k x.2
    · rw [if_pos hw] at h; cases h
    · have hw' : wrong k x.2 = false := by simpa using hw
      rw [if_neg hw] at h
      rw [wrong_emb o k c x hw', if_neg (by simp), take_emb o i k c x hw', show i + o + 1 = i + 1 + o by omega]
      exact ih _ _ _ h

theorem go_emb_left (o : Nat) (y : T) (ks : List Int) : ∀ (i : Nat) (x : S) (j : Nat), go i ks x = .inl j → go (i + o) ks (emb o (y, []) x) = .inl (j + o) := by
  induction ks with
  | nil => intro i x j h; simp [go] at h
  | cons k ks ih =>
    intro i x j h
    rw [go] at h ⊢
    rw [wrong_emb_nil]
    by_cases hw : wrong k x.2
    · rw [if_pos hw] at h ⊢; injection h with h; rw [h]
    · have hw' : wrong k x.2 = false := by simpa using hw
      rw [if_neg hw] at h ⊢
      rw [take_emb o i k _ x hw', show i + o + 1 = i + 1 + o by omega]
      exact ih _ _ _ h

theorem parse_ok {ks : List Int} (h : (parse ks).2.2 = 0) : ∃ t, go 0 ks (nil, []) = .inr (t, []) ∧ parse ks = (t, 0, 0) := by
  unfold parse at *
  cases hg : go 0 ks (nil, []) with
  | inl i => rw [hg] at h; simp [fin] at h
  | inr s =>
    obtain ⟨t, r⟩ := s
    cases r with
    | nil => exact ⟨t, rfl, rfl⟩
    | cons f r => rw [hg] at h; simp [fin] at h
theorem parse_of_go {ks : List Int} {t : T} (h : go 0 ks (nil, []) = .inr (t, [])) : parse ks = (t, 0, 0) := by unfold parse; rw [h]; rfl

/-- Two lists, one behind the other. -/
theorem parse_both (a b : List Int) (x : T) (ha : go 0 a (nil, []) = .inr (x, [])) :
    ((parse b).2.2 = 0 → ∃ y, parse b = (y, 0, 0) ∧ parse (a ++ b) = (x.app (shb a.length true y), 0, 0)) ∧
    ((parse b).2.2 ≠ 0 → parse (a ++ b) = (nil, (parse b).2.1 + a.length, (parse b).2.2)) := by
  have e0 : go 0 (a ++ b) (nil, []) = go (0 + a.length) b (emb a.length (x, []) (nil, [])) := by rw [go_append, ha, emb_start]
  cases hb : go 0 b (nil, []) with
  | inl j =>
    have h1 := go_emb_left a.length x b 0 _ j hb
    refine ⟨fun h => ?_, fun _ => ?_⟩
    · unfold parse at h; rw [hb] at h; simp [fin] at h
    · unfold parse; rw [e0, h1, hb]; simp [fin]
  | inr s =>
    have h1 := go_emb a.length (x, []) b 0 _ s hb
    obtain ⟨y, r⟩ := s
    cases r with
    | nil =>
      refine ⟨fun _ => ⟨y, parse_of_go hb, ?_⟩, fun h => ?_⟩
      · unfold parse; rw [e0, h1]; simp [emb, fin]
      · exact absurd (by unfold parse; rw [hb]; rfl) h
    | cons f r =>
      refine ⟨fun h => ?_, fun _ => ?_⟩
      · unfold parse at h; rw [hb] at h; simp [fin] at h
      · unfold parse; rw [e0, h1, hb]; simp [emb, fin, shf]

theorem parse_one (ks : List Int) (x : T) (h : go 0 ks (nil, []) = .inr (x, [])) : parse (4 :: (ks ++ [7])) = (one 0 (ks.length + 1) (one 0 0 (shb 1 true x)), 0, 0) := by
  have h1 := go_emb 1 (nil, [⟨0, false, nil, 0, nil⟩]) ks 0 _ _ h
  rw [emb_start] at h1
  unfold parse
  rw [show go 0 (4 :: (ks ++ [7])) (nil, []) = go (0 + 1) (ks ++ [7]) (nil, [⟨0, false, nil, 0, nil⟩]) from rfl, go_append, h1]
  simp [emb, go, take, wrong, parts, isNil, begins, add, fin, snoc, app, one, Nat.add_comm]

theorem parse_two (ks : List Int) (x : T) (h : go 0 ks (nil, []) = .inr (x, [])) :
    parse (2 :: 6 :: (ks ++ [7])) = (one 0 (ks.length + 2) (cons 0 0 nil (one 1 0 (shb 2 true x))), 0, 0) := by
  have h1 := go_emb 2 (nil, [⟨0, true, one 0 0 nil, 1, nil⟩]) ks 0 _ _ h
  rw [emb_start] at h1
  unfold parse
  rw [show go 0 (2 :: 6 :: (ks ++ [7])) (nil, []) = go (0 + 2) (ks ++ [7]) (nil, [⟨0, true, one 0 0 nil, 1, nil⟩]) from rfl, go_append, h1]
  simp [emb, go, take, wrong, parts, isNil, begins, add, fin, snoc, app, one, Nat.add_comm]

theorem parse_more (a b : List Int) : ((parse a).2.2 = 50 → (parse (a ++ b)).2.2 = 50 ∧ (parse (a ++ b)).2.1 = (parse a).2.1) ∧ ((parse a).2.2 ≠ 50 → (parse (a ++ b)).2.2 = 50 → a.length ≤ (parse (a ++ b)).2.1) := by
  unfold parse
  rw [go_append]
  cases ha : go 0 a (nil, []) with
  | inl j => simp [fin]
  | inr s =>
    refine ⟨fun h => ?_, fun _ h => ?_⟩
    · obtain ⟨x, r⟩ := s
      cases r <;> simp [fin] at h
    · dsimp only at h ⊢
      cases hb : go (0 + a.length) b s with
      | inl j => have := go_left _ _ _ _ hb; simp only [fin]; omega
      | inr s' =>
        rw [hb] at h
        obtain ⟨x, r⟩ := s'
        cases r <;> simp [fin] at h

/-! ### What the tree tells -/
def flat : Bool → T → List Nat
  | _, nil => []
  | true, cons l _ nil r => l :: flat true r
  | true, cons _ e (cons l' e' s' r') r => flat false (cons l' e' s' r') ++ e :: flat true r
  | false, cons l _ s r => l :: (flat true s ++ flat false r)
def dep : Bool → T → Nat
  | _, nil => 0
  | true, cons _ _ s r => max (dep false s) (dep true r)
  | false, cons _ _ s r => max (1 + dep true s) (dep false r)
end Ct
end Go.Proofs.Ytjmbchemdcmegaa
