/- What is proved: two conditions of a well-formed arena that hold for the same sets are one number; and what a kept decision comes to. Plain mathematics, no program. -/
namespace Go.Proofs.Ythhcahojbgcihaa.Bd

/-- A decision: its name, its side without, its side with. -/
abbrev Dec := Nat × Nat × Nat

def dec (ds : List Dec) (n : Nat) : Dec := ds.getD (n - 2) (0, 0, 0)

/-- One more than the name that a condition asks for first; 0 of none. -/
def top (ds : List Dec) (n : Nat) : Nat := if n < 2 then 0 else (dec ds n).1 + 1

/-- Whether a condition holds under an assignment; fuel first. -/
def sem (ds : List Dec) : Nat → Nat → (Nat → Bool) → Bool
  | 0, n, _ => n == 1
  | k + 1, n, a => if n < 2 then n == 1 else sem ds k (if a (dec ds n).1 then (dec ds n).2.2 else (dec ds n).2.1) a

def S (ds : List Dec) (n : Nat) (a : Nat → Bool) : Bool := sem ds n n a

structure WF (vars : Nat) (ds : List Dec) : Prop where
  name : ∀ n, 2 ≤ n → n < ds.length + 2 → (dec ds n).1 < vars
  lo : ∀ n, 2 ≤ n → n < ds.length + 2 → (dec ds n).2.1 < n
  hi : ∀ n, 2 ≤ n → n < ds.length + 2 → (dec ds n).2.2 < n
  ne : ∀ n, 2 ≤ n → n < ds.length + 2 → (dec ds n).2.1 ≠ (dec ds n).2.2
  tlo : ∀ n, 2 ≤ n → n < ds.length + 2 → top ds (dec ds n).2.1 ≤ (dec ds n).1
  thi : ∀ n, 2 ≤ n → n < ds.length + 2 → top ds (dec ds n).2.2 ≤ (dec ds n).1
  one : ∀ n m, 2 ≤ n → n < ds.length + 2 → 2 ≤ m → m < ds.length + 2 → dec ds n = dec ds m → n = m

theorem wf_nil (vars : Nat) : WF vars [] := by
  constructor <;> intros <;> simp at * <;> omega

variable {vars : Nat} {ds : List Dec}

theorem sem_fuel (h : WF vars ds) : ∀ (k n : Nat) (a : Nat → Bool), n ≤ k → n < ds.length + 2 → sem ds k n a = S ds n a := by
  intro k
  induction k using Nat.strongRecOn with
  | ind k ih =>
    intro n a hk hn
    rcases Nat.lt_or_ge n 2 with h2 | h2
    · unfold S
      cases k with
      | zero => have : n = 0 := by omega
                subst this; rfl
      | succ k =>
        cases n with
        | zero => simp [sem]
        | succ n => simp [sem, h2]
    · obtain ⟨k, rfl⟩ : ∃ j, k = j + 1 := ⟨k - 1, by omega⟩
      obtain ⟨n', rfl⟩ : ∃ j, n = j + 1 := ⟨n - 1, by omega⟩
      unfold S
      simp only [sem, if_neg (show ¬ n' + 1 < 2 by omega)]
      have hl := h.lo (n' + 1) h2 hn
      have hh := h.hi (n' + 1) h2 hn
      generalize hc : (if a (dec ds (n' + 1)).1 = true then (dec ds (n' + 1)).2.2 else (dec ds (n' + 1)).2.1) = c
      have hcn : c ≤ n' := by subst hc; split <;> omega
      rw [ih k (by omega) c a (by omega) (by omega)]
      by_cases e : n' = k
      · subst e; rw [ih n' (by omega) c a (by omega) (by omega)]
      · rw [ih n' (by omega) c a hcn (by omega)]

theorem S_lt2 {n : Nat} (h : n < 2) (a : Nat → Bool) : S ds n a = (n == 1) := by
  unfold S
  cases n with
  | zero => rfl
  | succ n => simp [sem, h]

theorem S_ge2 (h : WF vars ds) {n : Nat} (h2 : 2 ≤ n) (hn : n < ds.length + 2) (a : Nat → Bool) :
    S ds n a = S ds (if a (dec ds n).1 then (dec ds n).2.2 else (dec ds n).2.1) a := by
  have hl := h.lo n h2 hn
  have hh := h.hi n h2 hn
  obtain ⟨n', rfl⟩ : ∃ j, n = j + 1 := ⟨n - 1, by omega⟩
  conv => lhs; unfold S
  simp only [sem, if_neg (show ¬ n' + 1 < 2 by omega)]
  exact sem_fuel h _ _ _ (by split <;> omega) (by split <;> omega)

/-- Names from the top on are not asked for. -/
theorem S_congr (h : WF vars ds) : ∀ (n : Nat) (a b : Nat → Bool), n < ds.length + 2 → (∀ i, i < top ds n → a i = b i) → S ds n a = S ds n b := by
  intro n
  induction n using Nat.strongRecOn with
  | ind n ih =>
    intro a b hn hab
    rcases Nat.lt_or_ge n 2 with h2 | h2
    · rw [S_lt2 h2, S_lt2 h2]
    · have ht : top ds n = (dec ds n).1 + 1 := if_neg (by omega)
      rw [S_ge2 h h2 hn a, S_ge2 h h2 hn b, ← hab _ (by omega)]
      split
      · exact ih _ (h.hi n h2 hn) a b (by have := h.hi n h2 hn; omega) fun i hi => hab i (by have := h.thi n h2 hn; omega)
      · exact ih _ (h.lo n h2 hn) a b (by have := h.lo n h2 hn; omega) fun i hi => hab i (by have := h.tlo n h2 hn; omega)

def upd (a : Nat → Bool) (i : Nat) (v : Bool) : Nat → Bool := fun j => if j = i then v else a j

theorem upd_same (a : Nat → Bool) (i : Nat) (v : Bool) : upd a i v i = v := by simp [upd]
theorem upd_other (a : Nat → Bool) {i j : Nat} (v : Bool) (h : j ≠ i) : upd a i v j = a j := by simp [upd, h]

theorem S_upd (h : WF vars ds) {n i : Nat} (hn : n < ds.length + 2) (hi : top ds n ≤ i) (a : Nat → Bool) (v : Bool) : S ds n (upd a i v) = S ds n a :=
  S_congr h n _ _ hn fun j hj => upd_other a v (by omega)

theorem S_lo (h : WF vars ds) {n : Nat} (h2 : 2 ≤ n) (hn : n < ds.length + 2) (a : Nat → Bool) : S ds (dec ds n).2.1 a = S ds n (upd a (dec ds n).1 false) := by
  rw [S_ge2 h h2 hn, upd_same, if_neg (by simp), S_upd h (by have := h.lo n h2 hn; omega) (h.tlo n h2 hn)]

theorem S_hi (h : WF vars ds) {n : Nat} (h2 : 2 ≤ n) (hn : n < ds.length + 2) (a : Nat → Bool) : S ds (dec ds n).2.2 a = S ds n (upd a (dec ds n).1 true) := by
  rw [S_ge2 h h2 hn, upd_same, if_pos rfl, S_upd h (by have := h.hi n h2 hn; omega) (h.thi n h2 hn)]

/-- TWO CONDITIONS THAT HOLD FOR THE SAME ASSIGNMENTS ARE ONE. -/
theorem canon (h : WF vars ds) : ∀ (k n m : Nat), n < ds.length + 2 → m < ds.length + 2 → top ds n ≤ k → top ds m ≤ k → (∀ a, S ds n a = S ds m a) → n = m := by
  intro k
  induction k with
  | zero =>
    intro n m hn hm tn tm hs
    have h1 : n < 2 := by unfold top at tn; split at tn <;> omega
    have h2 : m < 2 := by unfold top at tm; split at tm <;> omega
    have := hs fun _ => false
    rw [S_lt2 h1, S_lt2 h2] at this
    rw [Bool.eq_iff_iff, beq_iff_eq, beq_iff_eq] at this
    omega
  | succ k ih =>
    have key : ∀ n m, n < ds.length + 2 → m < ds.length + 2 → top ds n = k + 1 → top ds m ≤ k → (∀ a, S ds n a = S ds m a) → False := by
      intro n m hn hm tn tm hs
      have h2 : 2 ≤ n := by unfold top at tn; split at tn <;> omega
      have e : (dec ds n).1 = k := by unfold top at tn; rw [if_neg (by omega)] at tn; omega
      refine h.ne n h2 hn (ih _ _ (by have := h.lo n h2 hn; omega) (by have := h.hi n h2 hn; omega) (by have := h.tlo n h2 hn; omega) (by have := h.thi n h2 hn; omega) fun a => ?_)
      rw [S_lo h h2 hn, S_hi h h2 hn, hs, hs, e, S_upd h hm tm, S_upd h hm tm]
    intro n m hn hm tn tm hs
    rcases Nat.lt_or_ge (top ds n) (k + 1) with h1 | h1
    · rcases Nat.lt_or_ge (top ds m) (k + 1) with h2 | h2
      · exact ih n m hn hm (by omega) (by omega) hs
      · exact (key m n hm hn (by omega) (by omega) fun a => (hs a).symm).elim
    · rcases Nat.lt_or_ge (top ds m) (k + 1) with h2 | h2
      · exact (key n m hn hm (by omega) (by omega) hs).elim
      · have n2 : 2 ≤ n := by unfold top at h1; split at h1 <;> omega
        have m2 : 2 ≤ m := by unfold top at h2; split at h2 <;> omega
        have en : (dec ds n).1 = k := by unfold top at tn h1; rw [if_neg (by omega)] at tn h1; omega
        have em : (dec ds m).1 = k := by unfold top at tm h2; rw [if_neg (by omega)] at tm h2; omega
        have el : (dec ds n).2.1 = (dec ds m).2.1 := ih _ _ (by have := h.lo n n2 hn; omega) (by have := h.lo m m2 hm; omega) (by have := h.tlo n n2 hn; omega) (by have := h.tlo m m2 hm; omega) fun a => by
          rw [S_lo h n2 hn, S_lo h m2 hm, hs, en, em]
        have eh : (dec ds n).2.2 = (dec ds m).2.2 := ih _ _ (by have := h.hi n n2 hn; omega) (by have := h.hi m m2 hm; omega) (by have := h.thi n n2 hn; omega) (by have := h.thi m m2 hm; omega) fun a => by
          rw [S_hi h n2 hn, S_hi h m2 hm, hs, en, em]
        exact h.one n m n2 hn m2 hm (Prod.ext (en.trans em.symm) (Prod.ext el eh))

theorem one_of_same (h : WF vars ds) {n m : Nat} (hn : n < ds.length + 2) (hm : m < ds.length + 2) (hs : ∀ a, S ds n a = S ds m a) : n = m :=
  canon h (max (top ds n) (top ds m)) n m hn hm (by omega) (by omega) hs

theorem top_le (h : WF vars ds) {n : Nat} (hn : n < ds.length + 2) : top ds n ≤ vars := by
  unfold top
  split
  · omega
  · have := h.name n (by omega) hn; omega

/-! What is added stays. -/
theorem dec_append {n : Nat} (ext : List Dec) (h2 : 2 ≤ n) (hn : n < ds.length + 2) : dec (ds ++ ext) n = dec ds n := by
  unfold dec
  rw [List.getD_eq_getElem?_getD, List.getD_eq_getElem?_getD, List.getElem?_append_left (by omega)]

theorem top_append {n : Nat} (ext : List Dec) (hn : n < ds.length + 2) : top (ds ++ ext) n = top ds n := by
  unfold top
  split
  · rfl
  · rw [dec_append ext (by omega) hn]

theorem S_append (h : WF vars ds) (ext : List Dec) (h' : WF vars (ds ++ ext)) : ∀ n, n < ds.length + 2 → ∀ a, S (ds ++ ext) n a = S ds n a := by
  intro n
  induction n using Nat.strongRecOn with
  | ind n ih =>
    intro hn a
    rcases Nat.lt_or_ge n 2 with h2 | h2
    · rw [S_lt2 h2, S_lt2 h2]
    · rw [S_ge2 h' h2 (by simp; omega), S_ge2 h h2 hn, dec_append ext h2 hn]
      have hl := h.lo n h2 hn
      have hh := h.hi n h2 hn
      exact ih _ (by split <;> omega) (by split <;> omega) a

theorem dec_new (d : Dec) : dec (ds ++ [d]) (ds.length + 2) = d := by
  unfold dec
  rw [List.getD_eq_getElem?_getD, show ds.length + 2 - 2 = ds.length by omega]
  simp

theorem wf_snoc (h : WF vars ds) {d : Dec} (hname : d.1 < vars) (hlo : d.2.1 < ds.length + 2) (hhi : d.2.2 < ds.length + 2) (hne : d.2.1 ≠ d.2.2) (tlo : top ds d.2.1 ≤ d.1) (thi : top ds d.2.2 ≤ d.1)
    (hnew : ∀ n, 2 ≤ n → n < ds.length + 2 → dec ds n ≠ d) : WF vars (ds ++ [d]) := by
  have cases_ : ∀ n, n < (ds ++ [d]).length + 2 → n < ds.length + 2 ∨ n = ds.length + 2 := by
    intro n hn; simp at hn; omega
  constructor
  · intro n h2 hn
    rcases cases_ n hn with h1 | rfl
    · rw [dec_append _ h2 h1]; exact h.name n h2 h1
    · rw [dec_new]; exact hname
  · intro n h2 hn
    rcases cases_ n hn with h1 | rfl
    · rw [dec_append _ h2 h1]; exact h.lo n h2 h1
    · rw [dec_new]; exact hlo
  · intro n h2 hn
    rcases cases_ n hn with h1 | rfl
    · rw [dec_append _ h2 h1]; exact h.hi n h2 h1
    · rw [dec_new]; exact hhi
  · intro n h2 hn
    rcases cases_ n hn with h1 | rfl
    · rw [dec_append _ h2 h1]; exact h.ne n h2 h1
    · rw [dec_new]; exact hne
  · intro n h2 hn
    rcases cases_ n hn with h1 | rfl
    · rw [dec_append _ h2 h1, top_append _ (by have := h.lo n h2 h1; omega)]; exact h.tlo n h2 h1
    · rw [dec_new, top_append _ hlo]; exact tlo
  · intro n h2 hn
    rcases cases_ n hn with h1 | rfl
    · rw [dec_append _ h2 h1, top_append _ (by have := h.hi n h2 h1; omega)]; exact h.thi n h2 h1
    · rw [dec_new, top_append _ hhi]; exact thi
  · intro n m n2 hn m2 hm e
    rcases cases_ n hn with h1 | rfl <;> rcases cases_ m hm with h3 | rfl
    · rw [dec_append _ n2 h1, dec_append _ m2 h3] at e; exact h.one n m n2 h1 m2 h3 e
    · rw [dec_append _ n2 h1, dec_new] at e; exact (hnew n n2 h1 e).elim
    · rw [dec_append _ m2 h3, dec_new] at e; exact (hnew m m2 h3 e.symm).elim
    · rfl

/-- What a call that makes a condition comes to: ds' goes on from ds, is well-formed, and has r, which holds where g says, asks for no name from t on; at most 2^t - 1 decisions are new. -/
structure Made (vars : Nat) (ds ds' : List Dec) (r : Nat) (g : (Nat → Bool) → Bool) (t : Nat) : Prop where
  ext : ∃ e, ds' = ds ++ e
  wf : WF vars ds'
  lt : r < ds'.length + 2
  says : ∀ a, S ds' r a = g a
  top : Bd.top ds' r ≤ t
  few : ds'.length + 1 ≤ ds.length + 2 ^ t

/-- 'decide' in plain words. -/
def decide_ (ds : List Dec) (d : Dec) : Nat × List Dec :=
  if d.2.1 = d.2.2 then (d.2.2, ds) else
  match ds.findIdx? (fun x => decide (x = d)) with
  | some i => (i + 2, ds)
  | none => (ds.length + 2, ds ++ [d])

theorem decide_made (h : WF vars ds) {d : Dec} (hname : d.1 < vars) (hlo : d.2.1 < ds.length + 2) (hhi : d.2.2 < ds.length + 2) (tlo : top ds d.2.1 ≤ d.1) (thi : top ds d.2.2 ≤ d.1) :
    WF vars (decide_ ds d).2 ∧ (∃ e, (decide_ ds d).2 = ds ++ e ∧ e.length ≤ 1) ∧ (decide_ ds d).1 < (decide_ ds d).2.length + 2 ∧ top (decide_ ds d).2 (decide_ ds d).1 ≤ d.1 + 1 ∧
      ∀ a, S (decide_ ds d).2 (decide_ ds d).1 a = if a d.1 then S ds d.2.2 a else S ds d.2.1 a := by
  unfold decide_
  split
  · rename_i e
    exact ⟨h, ⟨[], by simp, by simp⟩, hhi, by dsimp only; omega, fun a => by rw [e]; simp⟩
  · rename_i hne
    split
    · rename_i i hi
      rw [List.findIdx?_eq_some_iff_getElem] at hi
      obtain ⟨hlt, hp, _⟩ := hi
      have hd : dec ds (i + 2) = d := by
        unfold dec
        rw [show i + 2 - 2 = i by omega, List.getD_eq_getElem?_getD, List.getElem?_eq_getElem hlt]
        simpa using hp
      refine ⟨h, ⟨[], by simp, by simp⟩, by dsimp only; omega, ?_, fun a => ?_⟩
      · dsimp only
        unfold top
        rw [if_neg (by omega), hd]
        omega
      · dsimp only
        rw [S_ge2 h (by omega) (by omega), hd]
        split <;> rfl
    · rename_i hi
      rw [List.findIdx?_eq_none_iff] at hi
      have hw := wf_snoc h hname hlo hhi hne tlo thi (by
        intro n h2 hn e
        have hm : ds[n - 2] ∈ ds := List.getElem_mem (by omega)
        have := hi _ hm
        unfold dec at e
        rw [List.getD_eq_getElem?_getD, List.getElem?_eq_getElem (by omega)] at e
        simp at e this
        exact this e)
      refine ⟨hw, ⟨[d], rfl, by simp⟩, by simp, ?_, fun a => ?_⟩
      · dsimp only
        unfold top
        rw [if_neg (by omega), dec_new]
        omega
      · dsimp only
        rw [S_ge2 hw (by omega) (by simp), dec_new]
        split
        · exact S_append h _ hw _ hhi a
        · exact S_append h _ hw _ hlo a

end Go.Proofs.Ythhcahojbgcihaa.Bd
