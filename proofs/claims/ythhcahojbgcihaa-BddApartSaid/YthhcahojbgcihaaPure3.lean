/- What is proved: how many sets a condition has, its least set, and on which names it hangs, in plain words. -/
import Derived.Test.YthhcahojbgcihaaPure2
namespace Go.Proofs.Ythhcahojbgcihaa.Bd

variable {vars : Nat} {ds : List Dec}

/-- The assignment that a set's number tells. -/
def bits (s : Nat) : Nat → Bool := fun i => s.testBit i

/-- For how many sets of the names below t a condition holds. -/
def cnt (ds : List Dec) (n t : Nat) : Nat := (List.range (2 ^ t)).countP fun s => S ds n (bits s)

theorem cnt_split (h : WF vars ds) {n t : Nat} (hn : n < ds.length + 2) (ht : top ds n ≤ t + 1) : cnt ds n (t + 1) = cnt ds (splitOf ds n t).1 t + cnt ds (splitOf ds n t).2 t := by
  obtain ⟨s1, s2, s3, s4, s5⟩ := split_ok h hn ht
  unfold cnt
  rw [show 2 ^ (t + 1) = 2 ^ t + 2 ^ t by rw [Nat.pow_succ]; omega, List.range_add, List.countP_append, List.countP_map]
  congr 1
  · refine List.countP_congr fun s hs => ?_
    have hs' : s < 2 ^ t := by simpa using hs
    rw [s5]
    have : bits s t = false := Nat.testBit_lt_two_pow hs'
    rw [this]
    simp
  · refine List.countP_congr fun s hs => ?_
    have hs' : s < 2 ^ t := by simpa using hs
    show S ds n (bits (2 ^ t + s)) = true ↔ _
    have h1 : bits (2 ^ t + s) t = true := by
      unfold bits
      rw [Nat.testBit_two_pow_add_eq, Nat.testBit_lt_two_pow hs']
      rfl
    rw [s5, h1, if_pos rfl, S_congr h _ (bits (2 ^ t + s)) (bits s) s2 fun i hi => ?_]
    unfold bits
    exact Nat.testBit_two_pow_add_gt (by omega) s

theorem cnt_more (h : WF vars ds) {n t : Nat} (hn : n < ds.length + 2) (ht : top ds n ≤ t) : ∀ j, cnt ds n (t + j) = cnt ds n t * 2 ^ j := by
  intro j
  induction j with
  | zero => simp
  | succ j ih =>
    have := cnt_split h (t := t + j) hn (by omega)
    have e : splitOf ds n (t + j) = (n, n) := if_neg (by omega)
    rw [e] at this
    rw [show t + (j + 1) = t + j + 1 by omega, this, ih, Nat.pow_succ]
    rw [← Nat.mul_assoc]
    omega

theorem cnt_low (h : WF vars ds) {n : Nat} (hn : n < 2) (t : Nat) : cnt ds n t = n * 2 ^ t := by
  have := cnt_more h (n := n) (t := 0) (by omega) (by simp [top, hn]) t
  rw [Nat.zero_add] at this
  rw [this]
  congr 1
  unfold cnt
  match n, hn with
  | 0, _ => rfl
  | 1, _ => rfl

theorem cnt_high (h : WF vars ds) {n t : Nat} (h2 : 2 ≤ n) (hn : n < ds.length + 2) (ht : top ds n ≤ t) :
    cnt ds n t = (cnt ds (dec ds n).2.1 (dec ds n).1 + cnt ds (dec ds n).2.2 (dec ds n).1) * 2 ^ (t - 1 - (dec ds n).1) := by
  have e : top ds n = (dec ds n).1 + 1 := if_neg (by omega)
  have e2 : splitOf ds n (dec ds n).1 = (dec ds n).2 := if_pos e
  have h1 := cnt_split h (t := (dec ds n).1) hn (by omega)
  have h3 := cnt_more h (t := (dec ds n).1 + 1) hn (by omega) (t - 1 - (dec ds n).1)
  rw [show (dec ds n).1 + 1 + (t - 1 - (dec ds n).1) = t by omega] at h3
  rw [h3, h1, e2]

theorem cnt_le (ds : List Dec) (n t : Nat) : cnt ds n t ≤ 2 ^ t := by
  unfold cnt
  have := List.countP_le_length (l := List.range (2 ^ t)) (p := fun s => S ds n (bits s))
  simpa using this

/-! The names on which a condition hangs. -/
def dep (ds : List Dec) (n i : Nat) : Prop := ∃ a, S ds n (upd a i true) ≠ S ds n (upd a i false)

theorem dep_lt (h : WF vars ds) {n i : Nat} (hn : n < ds.length + 2) (hd : dep ds n i) : i < top ds n := by
  obtain ⟨a, ha⟩ := hd
  rcases Nat.lt_or_ge i (top ds n) with h1 | h1
  · exact h1
  · rw [S_upd h hn h1, S_upd h hn h1] at ha
    exact (ha rfl).elim

theorem upd_comm (a : Nat → Bool) {i j : Nat} (v u : Bool) (h : i ≠ j) : upd (upd a i v) j u = upd (upd a j u) i v := by
  funext k
  unfold upd
  by_cases h1 : k = j
  · subst h1
    rw [if_pos rfl, if_neg (by omega), if_pos rfl]
  · rw [if_neg h1, if_neg h1]

theorem dep_iff (h : WF vars ds) {n i : Nat} (h2 : 2 ≤ n) (hn : n < ds.length + 2) : dep ds n i ↔ i = (dec ds n).1 ∨ dep ds (dec ds n).2.1 i ∨ dep ds (dec ds n).2.2 i := by
  have hl := h.lo n h2 hn
  have hh := h.hi n h2 hn
  have tl := h.tlo n h2 hn
  have th := h.thi n h2 hn
  constructor
  · rintro ⟨a, ha⟩
    by_cases e : i = (dec ds n).1
    · exact .inl e
    · right
      rw [S_ge2 h h2 hn, S_ge2 h h2 hn (upd a i false), upd_other a true (Ne.symm e), upd_other a false (Ne.symm e)] at ha
      split at ha
      · exact .inr ⟨a, ha⟩
      · exact .inl ⟨a, ha⟩
  · rintro (e | hd | hd)
    · subst e
      have hne := h.ne n h2 hn
      apply Classical.byContradiction
      intro hno
      refine hne (one_of_same h (by omega) (by omega) fun a => ?_)
      rw [S_lo h h2 hn, S_hi h h2 hn]
      apply Classical.byContradiction
      intro hx
      exact hno ⟨a, fun e => hx e.symm⟩
    · have hi := dep_lt h (by omega) hd
      obtain ⟨a, ha⟩ := hd
      refine ⟨upd a (dec ds n).1 false, ?_⟩
      rw [upd_comm a false true (by omega), upd_comm a false false (by omega), ← S_lo h h2 hn, ← S_lo h h2 hn]
      exact ha
    · have hi := dep_lt h (by omega) hd
      obtain ⟨a, ha⟩ := hd
      refine ⟨upd a (dec ds n).1 true, ?_⟩
      rw [upd_comm a true true (by omega), upd_comm a true false (by omega), ← S_hi h h2 hn, ← S_hi h h2 hn]
      exact ha

theorem dep_low {n i : Nat} (hn : n < 2) : ¬ dep ds n i := by
  rintro ⟨a, ha⟩
  rw [S_lt2 hn, S_lt2 hn] at ha
  exact ha rfl

/-! The least set. -/
def sat (ds : List Dec) : Nat → Nat → Nat
  | 0, _ => 0
  | k + 1, n => if n < 2 then 0 else if (dec ds n).2.1 = 0 then 2 ^ (dec ds n).1 + sat ds k (dec ds n).2.2 else sat ds k (dec ds n).2.1

theorem sat_ok (h : WF vars ds) : ∀ (k n : Nat), n ≤ k → n ≠ 0 → n < ds.length + 2 → S ds n (bits (sat ds k n)) = true ∧ sat ds k n < 2 ^ top ds n ∧ ∀ s, S ds n (bits s) = true → sat ds k n ≤ s := by
  intro k
  induction k with
  | zero => intro n hk h0; omega
  | succ k ih =>
    intro n hk h0 hn
    unfold sat
    by_cases hlt : n < 2
    · rw [if_pos hlt]
      obtain rfl : n = 1 := by omega
      exact ⟨by rw [S_lt2 (by omega)]; rfl, Nat.two_pow_pos _, fun _ _ => Nat.zero_le _⟩
    · rw [if_neg hlt]
      have h2 : 2 ≤ n := by omega
      have hl := h.lo n h2 hn
      have hh := h.hi n h2 hn
      have tl := h.tlo n h2 hn
      have th := h.thi n h2 hn
      have hne := h.ne n h2 hn
      have et : top ds n = (dec ds n).1 + 1 := if_neg (by omega)
      by_cases e : (dec ds n).2.1 = 0
      · rw [if_pos e]
        obtain ⟨i1, i2, i3⟩ := ih (dec ds n).2.2 (by omega) (by omega) (by omega)
        have hp : 2 ^ top ds (dec ds n).2.2 ≤ 2 ^ (dec ds n).1 := Nat.pow_le_pow_right (by omega) th
        generalize sat ds k (dec ds n).2.2 = q at i1 i2 i3
        have hb : bits (2 ^ (dec ds n).1 + q) (dec ds n).1 = true := by
          unfold bits
          rw [Nat.testBit_two_pow_add_eq, Nat.testBit_lt_two_pow (by omega)]
          rfl
        refine ⟨?_, by rw [et, Nat.pow_succ]; omega, fun s hs => ?_⟩
        · rw [S_ge2 h h2 hn, hb, if_pos rfl, ← i1]
          refine S_congr h _ _ _ (by omega) fun i hi => ?_
          unfold bits
          exact Nat.testBit_two_pow_add_gt (by omega) q
        · rw [S_ge2 h h2 hn] at hs
          by_cases hbs : bits s (dec ds n).1 = true
          · rw [hbs, if_pos rfl] at hs
            have hm : S ds (dec ds n).2.2 (bits (s % 2 ^ (dec ds n).1)) = true := by
              rw [← hs]
              refine S_congr h _ _ _ (by omega) fun i hi => ?_
              unfold bits
              rw [Nat.testBit_mod_two_pow]
              simp
              intro; omega
            have := i3 _ hm
            have hge : 2 ^ (dec ds n).1 + s % 2 ^ (dec ds n).1 ≤ s := by
              unfold bits at hbs
              rw [Nat.testBit_eq_decide_div_mod_eq] at hbs
              have h1 : s / 2 ^ (dec ds n).1 % 2 = 1 := by simpa using hbs
              have h3 : 1 ≤ s / 2 ^ (dec ds n).1 := by
                rcases Nat.eq_zero_or_pos (s / 2 ^ (dec ds n).1) with e0 | e0
                · rw [e0] at h1; simp at h1
                · exact e0
              have h4 := Nat.div_add_mod s (2 ^ (dec ds n).1)
              have h5 : 2 ^ (dec ds n).1 * 1 ≤ 2 ^ (dec ds n).1 * (s / 2 ^ (dec ds n).1) := Nat.mul_le_mul_left _ h3
              omega
            omega
          · rw [if_neg hbs, e, S_lt2 (by omega)] at hs
            cases hs
      · rw [if_neg e]
        obtain ⟨i1, i2, i3⟩ := ih (dec ds n).2.1 (by omega) e (by omega)
        have hp : 2 ^ top ds (dec ds n).2.1 ≤ 2 ^ (dec ds n).1 := Nat.pow_le_pow_right (by omega) tl
        generalize sat ds k (dec ds n).2.1 = q at i1 i2 i3
        have hb : bits q (dec ds n).1 = false := Nat.testBit_lt_two_pow (by omega)
        refine ⟨?_, by rw [et, Nat.pow_succ]; have := Nat.two_pow_pos (dec ds n).1; omega, fun s hs => ?_⟩
        · rw [S_ge2 h h2 hn, hb]
          simpa using i1
        · rw [S_ge2 h h2 hn] at hs
          by_cases hbs : bits s (dec ds n).1 = true
          · have := Nat.ge_two_pow_of_testBit (x := s) (i := (dec ds n).1) hbs
            omega
          · rw [if_neg hbs] at hs
            exact i3 s hs

theorem sat_fuel (h : WF vars ds) : ∀ (k n : Nat), n ≤ k → n < ds.length + 2 → sat ds (k + 1) n = sat ds k n := by
  intro k
  induction k with
  | zero => intro n hk _; have : n = 0 := by omega
            subst this; rfl
  | succ k ih =>
    intro n hk hn
    rw [sat]
    conv => rhs; rw [sat]
    split
    · rfl
    · rename_i h2
      have hl := h.lo n (by omega) hn
      have hh := h.hi n (by omega) hn
      split
      · rw [ih _ (by omega) (by omega)]
      · rw [ih _ (by omega) (by omega)]

end Go.Proofs.Ythhcahojbgcihaa.Bd
