/- Plain mathematics: what is parsed is as the lines say; what Flat, Depth and Around tell of it. -/
import Derived.Test.YtjmbchemdcmegaaCt
namespace Go.Proofs.Ytjmbchemdcmegaa
namespace Ct
open T

/-- A line's kind. -/
def kd (ks : List Int) (i : Nat) : Int := ks.getD i 0
def plain (k : Int) : Bool := !begins k && !parts k && !(k == 7)

/-- Items (or branches) are just the lines from i up to j. -/
def G (ks : List Int) : Bool → Nat → T → Nat → Prop
  | _, i, nil, j => i = j
  | true, i, cons l e s r, j => l = i ∧ ((s = nil ∧ e = i ∧ plain (kd ks i) = true ∧ G ks true (i + 1) r j) ∨ (s ≠ nil ∧ begins (kd ks i) = true ∧ G ks false i s e ∧ kd ks e = 7 ∧ G ks true (e + 1) r j))
  | false, i, cons l e s r, j => l = i ∧ e = 0 ∧ ∃ m, G ks true (i + 1) s m ∧ (r ≠ nil → parts (kd ks m) = true) ∧ G ks false m r j

theorem Gle (ks : List Int) (t : T) : ∀ (b : Bool) (i j : Nat), G ks b i t j → i + t.len ≤ j := by
  induction t with
  | nil => intro b i j h; simp [G] at h; simp [len, h]
  | cons l e s r ihs ihr =>
    intro b i j h
    cases b with
    | true =>
      obtain ⟨rfl, h | h⟩ := h
      · have := ihr _ _ _ h.2.2.2; simp [len]; omega
      · have h1 := ihs _ _ _ h.2.2.1
        have h2 := ihr _ _ _ h.2.2.2.2
        simp [len]; omega
    | false =>
      obtain ⟨rfl, rfl, m, h1, _, h3⟩ := h
      have h1 := ihs _ _ _ h1
      have h2 := ihr _ _ _ h3
      simp [len]; omega
theorem Glt (ks : List Int) {l e : Nat} {s r : T} {b : Bool} {i j : Nat} (h : G ks b i (cons l e s r) j) : i < j := by
  have := Gle ks _ _ _ _ h; simp [len] at this; omega

theorem Gapp (ks : List Int) (t u : T) : ∀ (i j k : Nat), G ks true i t j → G ks true j u k → G ks true i (t.app u) k := by
  induction t with
  | nil => intro i j k h1 h2; simp [G] at h1; subst h1; exact h2
  | cons l e s r _ ihr =>
    intro i j k h1 h2
    obtain ⟨rfl, h | h⟩ := h1
    · exact ⟨rfl, .inl ⟨h.1, h.2.1, h.2.2.1, ihr _ _ _ h.2.2.2 h2⟩⟩
    · exact ⟨rfl, .inr ⟨h.1, h.2.1, h.2.2.1, h.2.2.2.1, ihr _ _ _ h.2.2.2.2 h2⟩⟩
theorem Gsnocb (ks : List Int) (t u : T) : ∀ (i j k : Nat), G ks false i t j → (t ≠ nil → parts (kd ks j) = true) → G ks true (j + 1) u k → G ks false i (t.snoc j 0 u) k := by
  induction t with
  | nil => intro i j k h1 _ h2; simp only [G] at h1; subst h1; exact ⟨rfl, rfl, k, h2, fun h => absurd rfl h, rfl⟩
  | cons l e s r _ ihr =>
    intro i j k h1 hp h2
    obtain ⟨rfl, rfl, m, h3, h4, h5⟩ := h1
    refine ⟨rfl, rfl, m, h3, fun _ => ?_, ihr _ _ _ h5 (fun _ => hp (by simp)) h2⟩
    cases r with
    | nil => simp only [G] at h5; subst h5; exact hp (by simp)
    | cons _ _ _ _ => exact h4 (by simp)

/-- The open conditionals, the innermost one first, up to line i, out of one whose lines begin at j. -/
def Up (ks : List Int) : List Fm → Nat → Nat → Prop
  | [], i, j => i = j
  | f :: st, i, j => begins (kd ks f.line) = true ∧ G ks false f.line f.dn f.b ∧ (f.dn ≠ nil → parts (kd ks f.b) = true) ∧ G ks true (f.b + 1) f.cur i ∧ Up ks st f.line j

theorem Up_step (ks : List Int) (k : Int) (s : S) (i j : Nat) (hk : kd ks i = k) (hw : wrong k s.2 = false) (h1 : G ks true 0 s.1 j) (h2 : Up ks s.2 i j) :
    ∃ j', G ks true 0 (take i k s).1 j' ∧ Up ks (take i k s).2 (i + 1) j' := by
  have key : ∀ (l e : Nat) (x : T) (st : List Fm) (out : T) (j : Nat), G ks true 0 out j → Up ks st l j → G ks true l (one l e x) (i + 1) → ∃ j', G ks true 0 (add l e x (out, st)).1 j' ∧ Up ks (add l e x (out, st)).2 (i + 1) j' := by
    intro l e x st out j h1 h2 h3
    cases st with
    | nil => simp only [Up] at h2; subst h2; exact ⟨i + 1, Gapp ks _ _ _ _ _ h1 h3, rfl⟩
    | cons f st => exact ⟨j, h1, h2.1, h2.2.1, h2.2.2.1, Gapp ks _ _ _ _ _ h2.2.2.2.1 h3, h2.2.2.2.2⟩
  obtain ⟨out, st⟩ := s
  unfold take
  by_cases hb : begins k
  · rw [if_pos hb]
    exact ⟨j, h1, by rw [hk]; exact hb, rfl, fun h => absurd rfl h, rfl, h2⟩
  · rw [if_neg hb]
    by_cases hp : parts k
    · rw [if_pos hp]
      cases st with
      | nil => simp [wrong, hp, noElse] at hw
      | cons f st =>
        obtain ⟨a, b, c, d, e⟩ := h2
        exact ⟨j, h1, a, Gsnocb ks _ _ _ _ _ b c d, fun _ => by rw [hk]; exact hp, rfl, e⟩
    · rw [if_neg hp]
      by_cases h7 : k == 7
      · rw [if_pos h7]
        cases st with
        | nil => simp [wrong, h7, isNil] at hw
        | cons f st =>
          obtain ⟨a, b, c, d, e⟩ := h2
          exact key _ _ _ _ _ _ h1 e ⟨rfl, .inr ⟨snoc_ne _ _ _ _, a, Gsnocb ks _ _ _ _ _ b c d, by rw [hk]; simpa using h7, rfl⟩⟩
      · rw [if_neg h7]
        exact key _ _ _ _ _ _ h1 h2 ⟨rfl, .inl ⟨rfl, rfl, by rw [hk]; simp [plain, hb, hp, h7], rfl⟩⟩

theorem Up_go (ks : List Int) (l : List Int) : ∀ (i j : Nat) (s y : S), ks.drop i = l → G ks true 0 s.1 j → Up ks s.2 i j → go i l s = .inr y → ∃ j', G ks true 0 y.1 j' ∧ Up ks y.2 (i + l.length) j' := by
  induction l with
  | nil => intro i j s y _ h1 h2 h; simp [go] at h; subst h; exact ⟨j, h1, h2⟩
  | cons k l ih =>
    intro i j s y hd h1 h2 h
    rw [go] at h
    have hk : kd ks i = k := by
      have := congrArg (·[0]?) hd
      simp at this
      simp [kd, this]
    by_cases hw : wrong k s.2
    · rw [if_pos hw] at h; cases h
    · rw [if_neg hw] at h
      obtain ⟨j1, a, b⟩ := Up_step ks k s i j hk (by simpa using hw) h1 h2
      have hd' : ks.drop (i + 1) = l := by rw [← List.drop_drop, hd]; rfl
      obtain ⟨j2, c, d⟩ := ih (i + 1) j1 _ _ hd' a b h
      exact ⟨j2, c, by rw [List.length_cons, show i + (l.length + 1) = i + 1 + l.length by omega]; exact d⟩

theorem Gparse {ks : List Int} {t : T} (h : go 0 ks (nil, []) = .inr (t, [])) : G ks true 0 t ks.length := by
  obtain ⟨j, a, b⟩ := Up_go ks ks 0 0 (nil, []) _ rfl rfl rfl h
  simp only [Up, Nat.zero_add] at b
  rw [b]; exact a

/-! ### Flat -/
theorem range'_app (i m j : Nat) (h1 : i ≤ m) (h2 : m ≤ j) : List.range' i (m - i) ++ List.range' m (j - m) = List.range' i (j - i) := by
  have := @List.range'_append i (m - i) (j - m) 1
  rw [Nat.one_mul, show i + (m - i) = m by omega, show m - i + (j - m) = j - i by omega] at this
  exact this
theorem range'_cons' (i j : Nat) (h : i < j) : i :: List.range' (i + 1) (j - (i + 1)) = List.range' i (j - i) := by
  rw [show j - i = (j - (i + 1)) + 1 by omega, List.range'_succ]

theorem flat_G (ks : List Int) (t : T) : ∀ (b : Bool) (i j : Nat), G ks b i t j → flat b t = List.range' i (j - i) := by
  induction t with
  | nil => intro b i j h; simp only [G] at h; subst h; cases b <;> simp [flat]
  | cons l e s r ihs ihr =>
    intro b i j h
    have hij := Glt ks h
    cases b with
    | true =>
      obtain ⟨rfl, ⟨rfl, rfl, _, h4⟩ | ⟨hs, _, h3, _, h5⟩⟩ := h
      · rw [flat, ihr _ _ _ h4, range'_cons' _ _ hij]
      · have e1 := ihs _ _ _ h3
        have e2 := ihr _ _ _ h5
        have l1 := Gle ks _ _ _ _ h3
        have l2 := Gle ks _ _ _ _ h5
        cases s with
        | nil => exact absurd rfl hs
        | cons l' e' s' r' => rw [flat, e1, e2, range'_cons' _ _ (by omega), range'_app _ _ _ (by omega) (by omega)]
    | false =>
      obtain ⟨rfl, rfl, m, h1, _, h3⟩ := h
      have l1 := Gle ks _ _ _ _ h1
      have l2 := Gle ks _ _ _ _ h3
      rw [flat, ihs _ _ _ h1, ihr _ _ _ h3, range'_app _ _ _ (by omega) (by omega), range'_cons' _ _ hij]

theorem flat_shb (o : Nat) (t : T) : ∀ b, flat b (shb o b t) = (flat b t).map (· + o) := by
  induction t with
  | nil => intro b; cases b <;> simp [flat, shb]
  | cons l e s r ihs ihr =>
    intro b
    cases b with
    | true =>
      cases s with
      | nil => simp [shb, flat, ihr]
      | cons l' e' s' r' =>
        have := ihs false
        simp only [shb] at this
        simp [shb, flat, ihr, this]
    | false => simp [shb, flat, ihr, ihs]
theorem flat_app (x y : T) : flat true (x.app y) = flat true x ++ flat true y := by
  induction x with
  | nil => simp [app, flat]
  | cons l e s r _ ih => cases s <;> simp [app, flat, ih]
theorem dep_shb (o : Nat) (t : T) : ∀ b, dep b (shb o b t) = dep b t := by
  induction t with
  | nil => intro b; cases b <;> simp [dep, shb]
  | cons l e s r ihs ihr => intro b; cases b <;> simp [dep, shb, ihs, ihr]

/-! ### Around -/
def nilB : T → Bool
  | nil => true
  | _ => false
/-- The branches that have a line, and whether one has it; of branches the conditional's end is asked, too. -/
def ar (x : Int) : Bool → Nat → T → List Nat × Bool
  | _, _, nil => ([], false)
  | true, q, cons l e s r => ((ar x false e s).1 ++ (ar x true q r).1, (nilB s && ((l : Int) == x)) || (ar x false e s).2 || (ar x true q r).2)
  | false, q, cons l _ s r => ((if (ar x true 0 s).2 || ((l : Int) == x) || (nilB r && ((q : Int) == x)) then l :: (ar x true 0 s).1 else []) ++ (ar x false q r).1,
      ((ar x true 0 s).2 || ((l : Int) == x) || (nilB r && ((q : Int) == x))) || (ar x false q r).2)

theorem ar_has (ks : List Int) (x : Int) (t : T) : ∀ (b : Bool) (q i j : Nat), G ks b i t j → (b = false → j = q) → (t = nil → b = true) →
    ((ar x b q t).2 = decide ((i : Int) ≤ x ∧ x < (if b then (j : Int) else j + 1))) ∧ ((ar x b q t).2 = false → (ar x b q t).1 = []) := by
  induction t with
  | nil =>
    intro b q i j h _ hb
    obtain rfl := hb rfl
    simp only [G] at h
    subst h
    simp [ar] <;> omega
  | cons l e s r ihs ihr =>
    intro b q i j h hq _
    cases b with
    | true =>
      obtain ⟨rfl, ⟨rfl, rfl, _, h4⟩ | ⟨hs, _, h3, _, h5⟩⟩ := h
      · obtain ⟨a1, a2⟩ := ihr true q _ _ h4 (by simp) (by simp)
        have l2 := Gle ks _ _ _ _ h4
        simp only [ar, nilB, List.nil_append, Bool.true_and, Bool.or_false]
        refine ⟨?_, fun h => ?_⟩
        · rw [a1, Bool.eq_iff_iff]; simp; omega
        · exact a2 (by simp only [Bool.or_eq_false_iff] at h; exact h.2)
      · obtain ⟨a1, a2⟩ := ihr true q _ _ h5 (by simp) (by simp)
        obtain ⟨c1, c2⟩ := ihs false e _ _ h3 (fun _ => rfl) (fun h => absurd h hs)
        have l1 := Gle ks _ _ _ _ h3
        have l2 := Gle ks _ _ _ _ h5
        have hn : nilB s = false := by cases s <;> simp_all [nilB]
        simp only [ar, hn, Bool.false_and, Bool.false_or]
        refine ⟨?_, fun h => ?_⟩
        · rw [a1, c1, Bool.eq_iff_iff]; simp; omega
        · rw [Bool.or_eq_false_iff] at h
          rw [a2 h.2, c2 h.1]; rfl
    | false =>
      obtain rfl := hq rfl
      obtain ⟨rfl, rfl, m, h1, _, h3⟩ := h
      obtain ⟨c1, c2⟩ := ihs true 0 _ _ h1 (by simp) (by simp)
      have l1 := Gle ks _ _ _ _ h1
      have l2 := Gle ks _ _ _ _ h3
      simp only [ar]
      cases r with
      | nil =>
        simp only [G] at h3
        subst h3
        simp only [nilB, Bool.true_and, ar, List.append_nil, Bool.or_false]
        refine ⟨?_, fun h => by rw [h]; rfl⟩
        rw [c1, Bool.eq_iff_iff]; simp; omega
      | cons l' e' s' r' =>
        obtain ⟨a1, a2⟩ := ihr false j _ _ h3 (fun _ => rfl) (fun h => by cases h)
        simp only [nilB, Bool.false_and, Bool.or_false]
        refine ⟨?_, fun h => ?_⟩
        · rw [a1, c1, Bool.eq_iff_iff]; simp; omega
        · rw [Bool.or_eq_false_iff] at h
          rw [a2 h.2, if_neg (by rw [h.1]; simp)]; rfl

/-! ### The document's Around, by the lines -/
def sc1 (X k : Int) (i : Nat) (o : List Nat) : List Nat :=
  if begins k then o ++ [i]
  else if parts k then o.dropLast ++ [i]
  else if k == 7 && decide ((i : Int) < X) then o.dropLast else o
def scan (ks : List Int) (X : Int) : Nat → Nat → List Nat → List Nat
  | 0, _, o => o
  | m + 1, i, o => scan ks X m (i + 1) (sc1 X (kd ks i) i o)

theorem scan_add (ks : List Int) (X : Int) (m n : Nat) : ∀ (i : Nat) (o : List Nat), scan ks X (m + n) i o = scan ks X n (i + m) (scan ks X m i o) := by
  induction m with
  | zero => intro i o; simp [scan]
  | succ m ih => intro i o; rw [show m + 1 + n = (m + n) + 1 by omega, scan, ih, scan, show i + 1 + m = i + (m + 1) by omega]
theorem scan_snoc (ks : List Int) (X : Int) (m i : Nat) (o : List Nat) : scan ks X (m + 1) i o = sc1 X (kd ks (i + m)) (i + m) (scan ks X m i o) := by
  rw [scan_add]; rfl
theorem scan_via (ks : List Int) (X : Int) (i j k : Nat) (o : List Nat) (h1 : i ≤ j) (h2 : j ≤ k) : scan ks X (k - i) i o = scan ks X (k - j) j (scan ks X (j - i) i o) := by
  rw [show k - i = (j - i) + (k - j) by omega, scan_add, show i + (j - i) = j by omega]
theorem scan_one (ks : List Int) (X : Int) (i k : Nat) (o : List Nat) (h : i < k) : scan ks X (k - i) i o = scan ks X (k - (i + 1)) (i + 1) (sc1 X (kd ks i) i o) := by
  rw [show k - i = (k - (i + 1)) + 1 by omega, scan]

theorem begins_iff (k : Int) : begins k = true ↔ k = 2 ∨ k = 3 ∨ k = 4 := by simp [begins, or_assoc]
theorem parts_iff (k : Int) : parts k = true ↔ k = 5 ∨ k = 6 := by simp [parts]
theorem begins_not {k : Int} (h : parts k = true ∨ k = 7) : begins k = false := by
  cases e : begins k with
  | false => rfl
  | true => rw [begins_iff] at e; rw [parts_iff] at h; omega
theorem parts_not {k : Int} (h : begins k = true ∨ k = 7) : parts k = false := by
  cases e : parts k with
  | false => rfl
  | true => rw [parts_iff] at e; rw [begins_iff] at h; omega

theorem sc1_plain {X k : Int} (i : Nat) (o : List Nat) (h : plain k = true) : sc1 X k i o = o := by
  simp only [plain, Bool.and_eq_true, Bool.not_eq_true'] at h
  simp [sc1, h.1.1, h.1.2, h.2]
theorem sc1_begins {X k : Int} (i : Nat) (o : List Nat) (h : begins k = true) : sc1 X k i o = o ++ [i] := by simp [sc1, h]
theorem sc1_parts {X k : Int} (i j : Nat) (o : List Nat) (h : parts k = true) : sc1 X k i (o ++ [j]) = o ++ [i] := by
  simp [sc1, begins_not (.inl h), h]
theorem sc1_end {X : Int} (i j : Nat) (o : List Nat) (h : (i : Int) < X) : sc1 X 7 i (o ++ [j]) = o := by
  simp [sc1, begins, parts, h]
theorem sc1_last {X : Int} (i : Nat) (o : List Nat) (h : ¬ (i : Int) < X) : sc1 X 7 i o = o := by
  simp [sc1, begins, parts, h]

theorem scan_G (ks : List Int) (X : Int) (t : T) : ∀ (b : Bool) (i j : Nat) (o : List Nat), G ks b i t j → (j : Int) ≤ X → 
    (b = true → scan ks X (j - i) i o = o) ∧ (b = false → t ≠ nil → ∃ p, scan ks X (j - (i + 1)) (i + 1) (o ++ [i]) = o ++ [p]) := by
  induction t with
  | nil => intro b i j o h _; simp only [G] at h; subst h; exact ⟨fun _ => by simp [scan], fun _ h => absurd rfl h⟩
  | cons l e s r ihs ihr =>
    intro b i j o h hX
    have hij := Glt ks h
    cases b with
    | true =>
      refine ⟨fun _ => ?_, fun h => by cases h⟩
      obtain ⟨rfl, ⟨rfl, rfl, h3, h4⟩ | ⟨hs, hb, h3, he, h5⟩⟩ := h
      · rw [scan_one ks X _ _ _ hij, sc1_plain _ _ h3]
        exact (ihr true _ _ o h4 hX).1 rfl
      · have l1 := Gle ks _ _ _ _ h3
        have l2 := Gle ks _ _ _ _ h5
        have l3 : l < e := by cases s with
          | nil => exact absurd rfl hs
          | cons _ _ _ _ => exact Glt ks h3
        obtain ⟨p, hp⟩ := (ihs false _ _ o h3 (by omega)).2 rfl hs
        rw [scan_one ks X _ _ _ hij, sc1_begins _ _ hb, scan_via ks X (l + 1) e j _ (by omega) (by omega), hp, scan_one ks X e j _ (by omega), he, sc1_end _ _ _ (by omega)]
        exact (ihr true _ _ o h5 hX).1 rfl
    | false =>
      refine ⟨fun h => (by cases h), fun _ _ => ?_⟩
      obtain ⟨rfl, rfl, m, h1, h2, h3⟩ := h
      have l1 := Gle ks _ _ _ _ h1
      have l2 := Gle ks _ _ _ _ h3
      rw [scan_via ks X (l + 1) m j _ (by omega) (by omega), (ihs true _ _ (o ++ [l]) h1 (by omega)).1 rfl]
      cases r with
      | nil => simp only [G] at h3; subst h3; exact ⟨l, by simp [scan]⟩
      | cons l' e' s' r' =>
        rw [scan_one ks X m j _ (Glt ks h3), sc1_parts _ _ _ (h2 (by simp))]
        exact (ihr false _ _ o h3 hX).2 rfl (by simp)

theorem ar_none (ks : List Int) (x : Int) (t : T) (b : Bool) (q i j : Nat) (h : G ks b i t j) (hq : b = false → j = q) (hb : t = nil → b = true) (hx : ¬ ((i : Int) ≤ x ∧ x < (if b then (j : Int) else j + 1))) : (ar x b q t).1 = [] :=
  (ar_has ks x t b q i j h hq hb).2 (by rw [(ar_has ks x t b q i j h hq hb).1]; simpa using hx)
theorem ar_some (ks : List Int) (x : Int) (t : T) (b : Bool) (q i j : Nat) (h : G ks b i t j) (hq : b = false → j = q) (hb : t = nil → b = true) (hx : (i : Int) ≤ x ∧ x < (if b then (j : Int) else j + 1)) : (ar x b q t).2 = true := by
  rw [(ar_has ks x t b q i j h hq hb).1]; simpa using hx
theorem ar_no (ks : List Int) (x : Int) (t : T) (b : Bool) (q i j : Nat) (h : G ks b i t j) (hq : b = false → j = q) (hb : t = nil → b = true) (hx : ¬ ((i : Int) ≤ x ∧ x < (if b then (j : Int) else j + 1))) : (ar x b q t).2 = false := by
  rw [(ar_has ks x t b q i j h hq hb).1]; simpa using hx

theorem scan_ar (ks : List Int) (X : Nat) (t : T) : ∀ (b : Bool) (q i j : Nat) (o : List Nat), G ks b i t j → i ≤ X → 
    (b = true → X < j → scan ks X (X + 1 - i) i o = o ++ (ar X true q t).1) ∧ (b = false → t ≠ nil → j = q → kd ks j = 7 → X ≤ j → scan ks X (X + 1 - (i + 1)) (i + 1) (o ++ [i]) = o ++ (ar X false q t).1) := by
  induction t with
  | nil => intro b q i j o h hi; simp only [G] at h; subst h; exact ⟨fun _ h => by omega, fun _ h => absurd rfl h⟩
  | cons l e s r ihs ihr =>
    intro b q i j o h hi
    have hij := Glt ks h
    cases b with
    | true =>
      refine ⟨fun _ hj => ?_, fun h => by cases h⟩
      obtain ⟨rfl, ⟨rfl, rfl, h3, h4⟩ | ⟨hs, hb, h3, he, h5⟩⟩ := h
      · rw [scan_one ks X _ _ _ (by omega), sc1_plain _ _ h3, ar]
        simp only [ar, List.nil_append]
        by_cases hX : X = e
        · rw [ar_none ks X r true q _ _ h4 (by simp) (by simp) (by simp; omega), hX]
          simp [scan]
        · exact (ihr true q _ _ o h4 (by omega)).1 rfl hj
      · have l1 := Gle ks _ _ _ _ h3
        have l2 := Gle ks _ _ _ _ h5
        rw [scan_one ks X _ _ _ (by omega), sc1_begins _ _ hb, ar]
        by_cases hX : X ≤ e
        · rw [ar_none ks X r true q _ _ h5 (by simp) (by simp) (by simp; omega), List.append_nil]
          exact (ihs false e _ _ o h3 hi).2 rfl hs rfl he hX
        · have l3 : l < e := by cases s with
            | nil => exact absurd rfl hs
            | cons _ _ _ _ => exact Glt ks h3
          obtain ⟨p, hp⟩ := (scan_G ks X s false _ _ o h3 (by omega)).2 rfl hs
          dsimp only
          rw [ar_none ks X s false e _ _ h3 (fun _ => rfl) (fun h => absurd h hs) (by simp; omega), List.nil_append,
            scan_via ks X (l + 1) e (X + 1) _ (by omega) (by omega), hp, scan_one ks X e _ _ (by omega), he, sc1_end _ _ _ (by omega)]
          exact (ihr true q _ _ o h5 (by omega)).1 rfl hj
    | false =>
      refine ⟨fun h => (by cases h), fun _ _ hq h7 hX => ?_⟩
      subst hq
      obtain ⟨rfl, rfl, m, h1, h2, h3⟩ := h
      have l1 := Gle ks _ _ _ _ h1
      have l2 := Gle ks _ _ _ _ h3
      have hr : X < m → (ar X false j r).1 = [] := fun h => by
        cases r with
        | nil => rfl
        | cons l' e' s' r' => exact ar_none ks X _ false j _ _ h3 (fun _ => rfl) (by simp) (by simp; omega)
      rw [ar]
      dsimp only
      by_cases hl : X = l
      · subst hl
        rw [hr (by omega), ar_none ks X s true 0 _ _ h1 (by simp) (by simp) (by simp; omega)]
        simp [scan]
      · by_cases hm : X < m
        · rw [hr hm, (ihs true 0 _ _ (o ++ [l]) h1 (by omega)).1 rfl hm, ar_some ks X s true 0 _ _ h1 (by simp) (by simp) (by simp; omega)]
          simp
        · rw [scan_via ks X (l + 1) m (X + 1) _ (by omega) (by omega), (scan_G ks X s true _ _ (o ++ [l]) h1 (by omega)).1 rfl, scan_one ks X m _ _ (by omega)]
          have hn : ((l : Int) == (X : Int)) = false := by simp; omega
          rw [ar_no ks X s true 0 _ _ h1 (by simp) (by simp) (by simp; omega), ar_none ks X s true 0 _ _ h1 (by simp) (by simp) (by simp; omega), hn]
          cases r with
          | nil =>
            simp only [G] at h3
            subst h3
            have : X = m := by omega
            subst this
            rw [h7, sc1_last _ _ (by omega)]
            simp [scan, nilB, ar]
          | cons l' e' s' r' =>
            rw [sc1_parts _ _ _ (h2 (by simp))]
            simp only [nilB, Bool.false_and, Bool.or_false, Bool.false_eq_true, if_false, List.nil_append]
            exact (ihr false j _ _ o h3 (by omega)).2 rfl (by simp) rfl h7 hX

theorem ar_le (ks : List Int) (x : Int) (t : T) : ∀ (b : Bool) (q i j : Nat), G ks b i t j → (b = false → j = q) → (ar x b q t).1.length ≤ dep b t := by
  induction t with
  | nil => intro b q i j _ _; cases b <;> simp [ar]
  | cons l e s r ihs ihr =>
    intro b q i j h hq
    cases b with
    | true =>
      obtain ⟨rfl, ⟨rfl, rfl, h3, h4⟩ | ⟨hs, hb, h3, he, h5⟩⟩ := h
      · have := ihr true q _ _ h4 (by simp)
        simp only [ar, dep, List.nil_append]; omega
      · have a1 := ihr true q _ _ h5 (by simp)
        have a2 := ihs false e _ _ h3 (fun _ => rfl)
        have l1 := Gle ks _ _ _ _ h3
        simp only [ar, dep, List.length_append]
        by_cases hx : x < e + 1
        · rw [ar_none ks x r true q _ _ h5 (by simp) (by simp) (by simp; omega)]; simp only [List.length_nil]; omega
        · rw [ar_none ks x s false e _ _ h3 (fun _ => rfl) (fun h => absurd h hs) (by simp; omega)]; simp only [List.length_nil]; omega
    | false =>
      obtain rfl := hq rfl
      obtain ⟨rfl, rfl, m, h1, h2, h3⟩ := h
      have a1 := ihr false j _ _ h3 (fun _ => rfl)
      have a2 := ihs true 0 _ _ h1 (by simp)
      have l1 := Gle ks _ _ _ _ h1
      have l2 := Gle ks _ _ _ _ h3
      simp only [ar, dep, List.length_append]
      cases r with
      | nil => simp only [ar, List.length_nil]; split <;> simp <;> omega
      | cons l' e' s' r' =>
        by_cases hx : x < m
        · rw [ar_none ks x _ false j _ _ h3 (fun _ => rfl) (by simp) (by simp; omega)]
          split <;> simp <;> omega
        · have hn : ((l : Int) == x) = false := by simp; omega
          rw [ar_no ks x s true 0 _ _ h1 (by simp) (by simp) (by simp; omega), hn]
          simp only [nilB, Bool.false_and, Bool.or_false, Bool.false_eq_true, if_false, List.length_nil]; omega

theorem ar_deep (ks : List Int) (t : T) : ∀ (b : Bool) (q i j : Nat), G ks b i t j → (b = false → j = q) → (t = nil → b = true) →
    (b = true ∧ dep b t = 0) ∨ ∃ x : Nat, i ≤ x ∧ x < j ∧ (ar x b q t).1.length = dep b t := by
  induction t with
  | nil => intro b q i j _ _ hb; obtain rfl := hb rfl; exact .inl ⟨rfl, rfl⟩
  | cons l e s r ihs ihr =>
    intro b q i j h hq _
    cases b with
    | true =>
      obtain ⟨rfl, ⟨rfl, rfl, h3, h4⟩ | ⟨hs, hb, h3, he, h5⟩⟩ := h
      · rcases ihr true q _ _ h4 (by simp) (by simp) with h | ⟨x, h6, h7, h8⟩
        · left; simp [dep, h.2]
        · right; refine ⟨x, by omega, h7, ?_⟩; simp [ar, dep, h8]
      · have l1 := Gle ks _ _ _ _ h3
        have l2 := Gle ks _ _ _ _ h5
        rcases ihs false e _ _ h3 (fun _ => rfl) (fun h => absurd h hs) with h | ⟨x, h6, h7, h8⟩
        · cases h.1
        · right
          by_cases hd : dep true r ≤ dep false s
          · refine ⟨x, h6, by omega, ?_⟩
            simp only [ar, dep, List.length_append, h8]
            rw [ar_none ks x r true q _ _ h5 (by simp) (by simp) (by simp; omega)]; simp only [List.length_nil]; omega
          · rcases ihr true q _ _ h5 (by simp) (by simp) with h | ⟨y, h9, h10, h11⟩
            · have := h.2; omega
            · refine ⟨y, by omega, h10, ?_⟩
              simp only [ar, dep, List.length_append, h11]
              rw [ar_none ks y s false e _ _ h3 (fun _ => rfl) (fun h => absurd h hs) (by simp; omega)]; simp only [List.length_nil]; omega
    | false =>
      obtain rfl := hq rfl
      obtain ⟨rfl, rfl, m, h1, h2, h3⟩ := h
      have l1 := Gle ks _ _ _ _ h1
      have l2 := Gle ks _ _ _ _ h3
      right
      have hr : ∀ x : Nat, x < m → (ar x false j r).1 = [] := fun x h => by
        cases r with
        | nil => rfl
        | cons l' e' s' r' => exact ar_none ks x _ false j _ _ h3 (fun _ => rfl) (by simp) (by simp; omega)
      have first : dep false r ≤ 1 + dep true s → ∃ x : Nat, l ≤ x ∧ x < j ∧ (ar x false j (cons l 0 s r)).1.length = dep false (cons l 0 s r) := fun hd => by
        rcases ihs true 0 _ _ h1 (by simp) (by simp) with h | ⟨x, h6, h7, h8⟩
        · refine ⟨l, by omega, by omega, ?_⟩
          simp only [ar, dep, hr l (by omega), List.append_nil]
          rw [ar_none ks l s true 0 _ _ h1 (by simp) (by simp) (by simp; omega)]
          have := h.2
          simp; omega
        · refine ⟨x, by omega, by omega, ?_⟩
          simp only [ar, dep, hr x (by omega), List.append_nil]
          rw [ar_some ks x s true 0 _ _ h1 (by simp) (by simp) (by simp; omega)]
          simp [h8]; omega
      by_cases hd : dep false r ≤ 1 + dep true s
      · exact first hd
      · cases r with
        | nil => simp [dep] at hd
        | cons l' e' s' r' =>
          rcases ihr false j _ _ h3 (fun _ => rfl) (by simp) with h | ⟨x, h6, h7, h8⟩
          · cases h.1
          · refine ⟨x, by omega, h7, ?_⟩
            have hn : ((l : Int) == (x : Int)) = false := by simp; omega
            rw [ar]
            dsimp only
            rw [ar_no ks x s true 0 _ _ h1 (by simp) (by simp) (by simp; omega), hn]
            rw [show nilB (cons l' e' s' r') = false from rfl]
            simp only [Bool.false_and, Bool.or_false, Bool.false_eq_true, if_false, List.nil_append]
            rw [h8, show dep false (cons l 0 s (cons l' e' s' r')) = max (1 + dep true s) (dep false (cons l' e' s' r')) from rfl]; omega

/-- The lines of the branches that are read, the outermost first. -/
def curs (st : List Fm) : List Nat := (st.map (·.b)).reverse
theorem curs_cons (f : Fm) (st : List Fm) : curs (f :: st) = curs st ++ [f.b] := by simp [curs]
theorem add_curs (l e : Nat) (x : T) (s : S) : curs (add l e x s).2 = curs s.2 := by
  obtain ⟨out, st⟩ := s; cases st <;> simp [add, curs]
theorem sc1_take (X : Int) (k : Int) (i : Nat) (s : S) (hw : wrong k s.2 = false) (hi : (i : Int) < X) : sc1 X k i (curs s.2) = curs (take i k s).2 := by
  obtain ⟨out, st⟩ := s
  unfold take
  by_cases hb : begins k
  · rw [if_pos hb, sc1_begins _ _ hb, curs_cons]
  · rw [if_neg hb]
    by_cases hp : parts k
    · rw [if_pos hp]
      cases st with
      | nil => simp [wrong, hp, noElse] at hw
      | cons f st => rw [curs_cons, sc1_parts _ _ _ hp, curs_cons]
    · rw [if_neg hp]
      by_cases h7 : k == 7
      · rw [if_pos h7]
        have h7' : k = 7 := by simpa using h7
        subst h7'
        cases st with
        | nil => simp [wrong, isNil] at hw
        | cons f st => dsimp only; rw [curs_cons, sc1_end _ _ _ hi, add_curs]
      · rw [if_neg h7, sc1_plain _ _ (by simp [plain, hb, hp, h7]), add_curs]
theorem wrong_ne {k : Int} {st : List Fm} (hw : wrong k st = false) (h : parts k = true ∨ k = 7) : st ≠ [] := by
  rintro rfl
  rcases h with h | rfl
  · simp [wrong, h, noElse] at hw
  · simp [wrong, isNil] at hw
theorem go_step {i : Nat} {k : Int} {l : List Int} {s y : S} (h : go i (k :: l) s = .inr y) : wrong k s.2 = false ∧ go (i + 1) l (take i k s) = .inr y := by
  rw [go] at h
  by_cases hw : wrong k s.2
  · rw [if_pos hw] at h; cases h
  · rw [if_neg hw] at h; exact ⟨by simpa using hw, h⟩
end Ct
end Go.Proofs.Ytjmbchemdcmegaa
