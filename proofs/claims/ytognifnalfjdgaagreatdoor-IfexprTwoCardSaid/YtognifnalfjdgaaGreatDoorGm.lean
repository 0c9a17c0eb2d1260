/- What is proved: plain facts on tokens: what is printed is told again, token by token. (and what stands with it) -/
import Derived.Test.YtognifnalfjdgaaGreatDoorGi

/- What is proved: plain facts on tokens: what is printed is told again, token by token. -/
namespace Go.Proofs.YtognifnalfjdgaaGreatDoor.Lx
open Go.Lib
open Sp (Ch)

/-! ### What stands behind a token matters only up to its first byte, or to the next blank -/
theorem ag_head {X r : List UInt8} (h : Ag X r) : X = [] ∨ (∃ y, X = 32 :: y) ∨ ∃ c X' r', X = c :: X' ∧ r = c :: r' ∧ Ag X' r' := by
  match X, r, h with
  | [], _, _ => exact .inl rfl
  | c :: y, [], h =>
    have hc : c = 32 := h
    exact .inr (.inl ⟨y, by rw [hc]⟩)
  | c :: y, d :: u, h =>
    rcases h with h | ⟨h, h'⟩
    · exact .inr (.inl ⟨y, by rw [h]⟩)
    · exact .inr (.inr ⟨c, y, u, rfl, by rw [h], h'⟩)
theorem prefix_ag (s : List UInt8) (hs : 32 ∉ s) : ∀ {X r : List UInt8}, Ag X r → s.isPrefixOf X = true → s.isPrefixOf r = true := by
  induction s with
  | nil => intro X r _ _; simp [List.isPrefixOf]
  | cons a s ih =>
    intro X r h hp
    rcases ag_head h with rfl | ⟨y, rfl⟩ | ⟨c, X', r', rfl, rfl, h'⟩
    · simp [List.isPrefixOf] at hp
    · simp only [List.isPrefixOf, Bool.and_eq_true, beq_iff_eq] at hp
      exact absurd (by rw [hp.1]; simp) hs
    · simp only [List.isPrefixOf, Bool.and_eq_true, beq_iff_eq] at hp ⊢
      exact ⟨hp.1, ih (fun e => hs (List.mem_cons_of_mem _ e)) h' hp.2⟩
theorem headDigit_ag {X r : List UInt8} (h : Ag X r) (hd : headDigit X = true) : headDigit r = true := by
  rcases ag_head h with rfl | ⟨y, rfl⟩ | ⟨c, X', r', rfl, rfl, _⟩
  · cases hd
  · exact absurd hd (by show ¬ digit 32 = true; decide)
  · exact hd
theorem word_ag {X r : List UInt8} (h : Ag X r) (hr : wordLen r = 0) : wordLen X = 0 := by
  rcases ag_head h with rfl | ⟨y, rfl⟩ | ⟨c, X', r', rfl, rfl, _⟩
  · rfl
  · unfold wordLen; rw [List.takeWhile_cons, if_neg (by decide)]; rfl
  · unfold wordLen at hr ⊢
    rw [List.takeWhile_cons] at hr ⊢
    split at hr
    · simp at hr
    · rename_i hc; rw [if_neg hc]; rfl
theorem word_back : ∀ (u R : List UInt8), Ag R (u.drop (wordLen u)) → wordLen (u.take (wordLen u) ++ R) = wordLen u
  | [], R, h => by
    have : wordLen ([] : List UInt8) = 0 := rfl
    rw [this] at h ⊢
    simpa using word_ag h rfl
  | c :: u, R, h => by
    by_cases hc : alnum c = true
    · have e : wordLen (c :: u) = wordLen u + 1 := by unfold wordLen; rw [List.takeWhile_cons, if_pos hc]; simp
      rw [e, List.drop_succ_cons] at h
      have ih := word_back u R h
      rw [e, List.take_succ_cons, List.cons_append]
      have e2 : ∀ y, wordLen (c :: y) = wordLen y + 1 := fun y => by unfold wordLen; rw [List.takeWhile_cons, if_pos hc]; simp
      rw [e2, ih]
    · have e : wordLen (c :: u) = 0 := by unfold wordLen; rw [List.takeWhile_cons, if_neg hc]; rfl
      rw [e] at h ⊢
      rw [List.drop_zero] at h
      rw [List.take_zero, List.nil_append]
      exact word_ag h e
theorem isE_numc (c : UInt8) (h : isE c = true) : numc c = true := by
  unfold isE at h
  simp only [Bool.or_eq_true, beq_iff_eq] at h
  rcases h with ((h | h) | h) | h <;> (subst h; decide)
theorem num_zero (c : UInt8) (r : List UInt8) (h : numc c = false) : numRest (c :: r) = 0 := by
  cases r with
  | nil => simp [numRest, h]
  | cons d r =>
    have e : numRest (c :: d :: r) = if isE c && isSg d then 2 + numRest r else if numc c then 1 + numRest (d :: r) else 0 := rfl
    have hE : isE c = false := by cases hE : isE c with | false => rfl | true => rw [isE_numc c hE] at h; cases h
    rw [e, hE, h]; rfl
theorem num_zero_ag {X r : List UInt8} (h : Ag X r) (hr : numRest r = 0) (hc : ∀ c r', r = c :: r' → numc c = false) : numRest X = 0 := by
  rcases ag_head h with rfl | ⟨y, rfl⟩ | ⟨c, X', r', rfl, rfl, _⟩
  · rfl
  · exact num_zero 32 y (by decide)
  · exact num_zero c X' (hc c r' rfl)
theorem num_back : ∀ (u R : List UInt8), Ag R (u.drop (numRest u)) → numRest (u.take (numRest u) ++ R) = numRest u
  | [], R, h => by
    have e : numRest [] = 0 := rfl
    rw [e] at h ⊢
    simpa using num_zero_ag h e (fun c r' h => by simp at h)
  | [c], R, h => by
    have e : numRest [c] = if numc c then 1 else 0 := rfl
    cases hc : numc c with
    | true =>
      rw [hc, if_pos rfl] at e
      rw [e] at h ⊢
      rw [List.take_succ_cons, List.take_zero, List.cons_append, List.nil_append]
      rcases ag_head h with rfl | ⟨y, rfl⟩ | ⟨d, X', r', rfl, hd, _⟩
      · exact e
      · have e2 : numRest (c :: 32 :: y) = if isE c && isSg 32 then 2 + numRest y else if numc c then 1 + numRest (32 :: y) else 0 := rfl
        rw [e2, show isSg 32 = false from by decide, Bool.and_false, if_neg (by simp), hc, if_pos rfl, num_zero 32 y (by decide)]
      · simp at hd
    | false =>
      rw [hc] at e
      rw [e, if_neg (by simp)] at h ⊢
      rw [List.take_zero, List.nil_append]
      rw [List.drop_zero] at h
      exact num_zero_ag h (num_zero c [] hc) (fun d r' h => by simp at h; rw [← h.1]; exact hc)
  | c :: d :: r, R, h => by
    have e : ∀ y z, numRest (c :: y :: z) = if isE c && isSg y then 2 + numRest z else if numc c then 1 + numRest (y :: z) else 0 := fun _ _ => rfl
    by_cases h1 : (isE c && isSg d) = true
    · have em := e d r
      rw [if_pos h1] at em
      rw [em, show 2 + numRest r = numRest r + 1 + 1 by omega] at h ⊢
      rw [List.drop_succ_cons, List.drop_succ_cons] at h
      have ih := num_back r R h
      rw [List.take_succ_cons, List.take_succ_cons, List.cons_append, List.cons_append, e, if_pos h1, ih]; omega
    · cases hc : numc c with
      | true =>
        have em := e d r
        rw [if_neg h1, hc, if_pos rfl] at em
        rw [em, show 1 + numRest (d :: r) = numRest (d :: r) + 1 by omega] at h ⊢
        rw [List.drop_succ_cons] at h
        have ih := num_back (d :: r) R h
        rw [List.take_succ_cons, List.cons_append]
        have hY : Ag ((d :: r).take (numRest (d :: r)) ++ R) (d :: r) := by
          have := Ag.app ((d :: r).take (numRest (d :: r))) h
          rwa [List.take_append_drop] at this
        obtain ⟨Y, hYe⟩ : ∃ Y, Y = (d :: r).take (numRest (d :: r)) ++ R := ⟨_, rfl⟩
        rw [← hYe] at ih hY ⊢
        rcases ag_head hY with rfl | ⟨y, rfl⟩ | ⟨d', X', r', rfl, hd, _⟩
        · rw [← ih]; simp [numRest, hc]
        · rw [e, show isSg 32 = false from by decide, Bool.and_false, if_neg (by simp), hc, if_pos rfl, ih]; omega
        · have hdd : d' = d := by simp at hd; exact hd.1.symm
          subst hdd
          rw [e, if_neg h1, hc, if_pos rfl, ih]; omega
      | false =>
        have em := num_zero c (d :: r) hc
        rw [em] at h ⊢
        rw [List.take_zero, List.nil_append]
        rw [List.drop_zero] at h
        exact num_zero_ag h em (fun c' r' h => by simp at h; rw [← h.1]; exact hc)
theorem qr_back (q : UInt8) : ∀ (r : List UInt8) (m : Nat) (R : List UInt8), qr q r = some m → qr q (r.take m ++ R) = some m
  | [], m, R, h => by simp [qr] at h
  | [c], m, R, h => by
    have e : qr q [c] = if c = 10 then none else if c = q then some 1 else none := rfl
    rw [e] at h
    split at h
    · cases h
    · rename_i h10
      split at h
      · rename_i hq
        injection h with h; subst h
        rw [List.take_succ_cons, List.take_zero, List.cons_append, List.nil_append]
        cases R with
        | nil => rw [e, if_neg h10, if_pos hq]
        | cons d R =>
          have e2 : qr q (c :: d :: R) = if c = 10 then none else if c = q then some 1 else if c = 92 then (if d = 10 then none else (qr q R).map (· + 2)) else (qr q (d :: R)).map (· + 1) := rfl
          rw [e2, if_neg h10, if_pos hq]
      · cases h
  | c :: d :: r, m, R, h => by
    have e : ∀ y z, qr q (c :: y :: z) = if c = 10 then none else if c = q then some 1 else if c = 92 then (if y = 10 then none else (qr q z).map (· + 2)) else (qr q (y :: z)).map (· + 1) := fun _ _ => rfl
    have e1 : qr q [c] = if c = 10 then none else if c = q then some 1 else none := rfl
    rw [e] at h
    split at h
    · cases h
    · rename_i h10
      split at h
      · rename_i hq
        injection h with h; subst h
        rw [List.take_succ_cons, List.take_zero, List.cons_append, List.nil_append]
        cases R with
        | nil => rw [e1, if_neg h10, if_pos hq]
        | cons d R => rw [e, if_neg h10, if_pos hq]
      · rename_i hq
        split at h
        · rename_i h92
          split at h
          · cases h
          · rename_i hd
            obtain ⟨k, hk, rfl⟩ := Option.map_eq_some_iff.1 h
            rw [List.take_succ_cons, List.take_succ_cons, List.cons_append, List.cons_append, e, if_neg h10, if_neg hq, if_pos h92, if_neg hd, qr_back q r k R hk]
            rfl
        · rename_i h92
          obtain ⟨k, hk, rfl⟩ := Option.map_eq_some_iff.1 h
          have hk1 := qr_le q (d :: r) k hk
          have ih := qr_back q (d :: r) k R hk
          obtain ⟨k, rfl⟩ : ∃ i, k = i + 1 := ⟨k - 1, by omega⟩
          rw [List.take_succ_cons, List.cons_append] at ih
          rw [List.take_succ_cons, List.take_succ_cons, List.cons_append, List.cons_append, e, if_neg h10, if_neg hq, if_neg h92, ih]
          rfl

/-- The sign with which a text begins. -/
theorem sign_word (u : List UInt8) (h : 0 < signLen u) : u.take (signLen u) ∈ signTab := by
  rw [sign_ref] at h ⊢
  have key : ∀ (L : List (List UInt8)) (k : Nat), (∀ s ∈ L, s.length = k) → L.any (·.isPrefixOf u) = true → u.take k ∈ L := by
    intro L k hk h
    obtain ⟨s, hs, hp⟩ := List.any_eq_true.1 h
    have := List.prefix_iff_eq_take.1 (List.isPrefixOf_iff_prefix.1 hp)
    rw [hk s hs] at this
    rw [← this]; exact hs
  have m3 : ∀ s ∈ threes, s ∈ signTab := fun s hs => List.mem_append_left _ (List.mem_append_left _ hs)
  have m2 : ∀ s ∈ twos, s ∈ signTab := fun s hs => List.mem_append_left _ (List.mem_append_right _ hs)
  have m1 : ∀ s ∈ ones, s ∈ signTab := fun s hs => List.mem_append_right _ hs
  unfold refSign at h ⊢
  split
  · exact m3 _ (key threes 3 (by decide) (by assumption))
  · split
    · exact m2 _ (key twos 2 (by decide) (by assumption))
    · split
      · exact m1 _ (key ones 1 (by decide) (by assumption))
      · rename_i a b c
        rw [if_neg a, if_neg b, if_neg c] at h
        omega
theorem sign_back (u R : List UInt8) (n : Nat) (hn : signLen u = n) (h : 0 < n) (ha : Ag R (u.drop n)) : signLen (u.take n ++ R) = n := by
  have hag : Ag (u.take n ++ R) u := by
    have := Ag.app (u.take n) ha
    rwa [List.take_append_drop] at this
  obtain ⟨Y, hY⟩ : ∃ Y, Y = u.take n ++ R := ⟨_, rfl⟩
  rw [← hY] at hag ⊢
  have no : ∀ (L : List (List UInt8)), (∀ s ∈ L, 32 ∉ s) → ¬ L.any (·.isPrefixOf u) = true → ¬ L.any (·.isPrefixOf Y) = true := by
    intro L hL h h'
    obtain ⟨s, hs, hp⟩ := List.any_eq_true.1 h'
    exact h (List.any_eq_true.2 ⟨s, hs, prefix_ag s (hL s hs) hag hp⟩)
  have yes : ∀ (L : List (List UInt8)) (k : Nat), (∀ s ∈ L, s.length = k) → n = k → L.any (·.isPrefixOf u) = true → L.any (·.isPrefixOf Y) = true := by
    intro L k hk hsk h
    obtain ⟨s, hs, hp⟩ := List.any_eq_true.1 h
    have := List.prefix_iff_eq_take.1 (List.isPrefixOf_iff_prefix.1 hp)
    rw [hk s hs] at this
    refine List.any_eq_true.2 ⟨s, hs, ?_⟩
    rw [List.isPrefixOf_iff_prefix, hY, hsk, ← this]
    exact List.prefix_append _ _
  clear hY ha hag
  rw [sign_ref] at hn ⊢
  unfold refSign at hn ⊢
  by_cases h3 : threes.any (·.isPrefixOf u) = true
  · rw [if_pos h3] at hn
    rw [if_pos (yes threes 3 (by decide) hn.symm h3)]
    exact hn
  · rw [if_neg h3] at hn
    rw [if_neg (no threes (by decide) h3)]
    by_cases h2 : twos.any (·.isPrefixOf u) = true
    · rw [if_pos h2] at hn
      rw [if_pos (yes twos 2 (by decide) hn.symm h2)]
      exact hn
    · rw [if_neg h2] at hn
      rw [if_neg (no twos (by decide) h2)]
      by_cases h1 : ones.any (·.isPrefixOf u) = true
      · rw [if_pos h1] at hn
        rw [if_pos (yes ones 1 (by decide) hn.symm h1)]
        exact hn
      · rw [if_neg h1] at hn
        omega
theorem sign_head (c : UInt8) (r : List UInt8) (h : 0 < signLen (c :: r)) : c ≠ 34 ∧ c ≠ 39 := by
  have hm := sign_word (c :: r) h
  have hall : ∀ s ∈ signTab, s.head? ≠ some 34 ∧ s.head? ≠ some 39 := by decide
  have := hall _ hm
  obtain ⟨n, hn⟩ : ∃ n, signLen (c :: r) = n + 1 := ⟨signLen (c :: r) - 1, by omega⟩
  rw [hn, List.take_succ_cons] at this
  simpa using this
theorem closed_head (q c : UInt8) (r : List UInt8) (h : 0 < closedLen q (c :: r)) : c = q ∧ ∃ m, qr q r = some m ∧ closedLen q (c :: r) = m + 1 := by
  rw [closedLen_cons] at h ⊢
  split at h
  · rename_i hc
    rw [if_pos hc]
    cases hm : qr q r with
    | none => rw [hm] at h; simp [upto] at h
    | some m => exact ⟨hc, m, rfl, by simp [upto]; omega⟩
  · omega

/-- The first token is the same whatever stands behind it up to a blank. -/
theorem first_back (u R : List UInt8) (hu : u ≠ []) (hk : (first u).1 ≠ 6) (ha : Ag R (u.drop (first u).2)) : first (u.take (first u).2 ++ R) = first u := by
  cases u with
  | nil => exact absurd rfl hu
  | cons c r =>
    have hf := first_cons c r
    by_cases h10 : c = 10
    · rw [if_pos h10] at hf
      rw [hf] at ha ⊢
      rw [List.take_succ_cons, List.cons_append, first_cons, if_pos h10]
    · rw [if_neg h10] at hf
      by_cases hL : letter c = true
      · rw [if_pos hL] at hf
        rw [hf] at ha ⊢
        have hb := word_back (c :: r) R ha
        obtain ⟨n, hn⟩ : ∃ n, wordLen (c :: r) = n + 1 := ⟨wordLen (c :: r) - 1, by have := wordLen_pos c r hL; omega⟩
        dsimp only
        rw [hn, List.take_succ_cons, List.cons_append] at hb ⊢
        rw [first_cons, if_neg h10, if_pos hL, hb]
      · rw [if_neg hL] at hf
        by_cases hN : 0 < numLen (c :: r)
        · rw [if_pos hN] at hf
          rw [hf] at ha ⊢
          dsimp only at ha ⊢
          rw [numLen_cons] at hN ha ⊢
          split at hN
          · rename_i hst
            rw [if_pos hst] at ha ⊢
            rw [show 1 + numRest r = numRest r + 1 by omega] at ha ⊢
            rw [List.drop_succ_cons] at ha
            have hb := num_back r R ha
            rw [List.take_succ_cons, List.cons_append]
            have hst2 : (digit c || (c == 46 && headDigit (r.take (numRest r) ++ R))) = true := by
              cases hD : digit c with
              | true => rfl
              | false =>
                rw [hD, Bool.false_or, Bool.and_eq_true] at hst
                rw [Bool.false_or, Bool.and_eq_true]
                refine ⟨hst.1, ?_⟩
                cases r with
                | nil => exact absurd hst.2 (by simp [headDigit])
                | cons d r =>
                  have hdg : digit d = true := hst.2
                  have hpos : 0 < numRest (d :: r) := by
                    have hE : isE d = false := by
                      cases hE : isE d with
                      | false => rfl
                      | true =>
                        unfold isE at hE
                        simp only [Bool.or_eq_true, beq_iff_eq] at hE
                        rcases hE with ((h | h) | h) | h <;> (subst h; revert hdg; decide)
                    have hnc : numc d = true := by simp [numc, hdg]
                    cases r with
                    | nil => simp [numRest, hnc]
                    | cons y z =>
                      have e : numRest (d :: y :: z) = if isE d && isSg y then 2 + numRest z else if numc d then 1 + numRest (y :: z) else 0 := rfl
                      rw [e, hE, hnc]
                      simp
                      omega
                  obtain ⟨n, hn⟩ : ∃ n, numRest (d :: r) = n + 1 := ⟨numRest (d :: r) - 1, by omega⟩
                  rw [hn, List.take_succ_cons, List.cons_append]
                  exact hdg
            have hnl : numLen (c :: (r.take (numRest r) ++ R)) = numRest r + 1 := by rw [numLen_cons, if_pos hst2, hb]; omega
            rw [first_cons, if_neg h10, if_neg hL, hnl, if_pos (by omega)]
          · omega
        · rw [if_neg hN] at hf
          have hD : digit c = false := by
            cases hD : digit c with
            | false => rfl
            | true => rw [numLen_cons, hD, Bool.true_or, if_pos rfl] at hN; omega
          have hH : c = 46 → headDigit r = false := by
            intro h46
            cases hH : headDigit r with
            | false => rfl
            | true => rw [numLen_cons, h46, hH] at hN; simp at hN
          have hnl : ∀ X, Ag X r → numLen (c :: X) = 0 := by
            intro X hX
            rw [numLen_cons, if_neg]
            rw [hD, Bool.false_or, Bool.and_eq_true, beq_iff_eq]
            rintro ⟨h46, hd⟩
            have := headDigit_ag hX hd
            rw [hH h46] at this; cases this
          by_cases hA : 0 < closedLen 34 (c :: r)
          · rw [if_pos hA] at hf
            rw [hf] at ha ⊢
            obtain ⟨hc, m, hm, hcl⟩ := closed_head 34 c r hA
            dsimp only at ha ⊢
            rw [hcl] at ha ⊢
            rw [List.drop_succ_cons] at ha
            rw [List.take_succ_cons, List.cons_append]
            have hX : Ag (r.take m ++ R) r := by have := Ag.app (r.take m) ha; rwa [List.take_append_drop] at this
            have hcl2 : closedLen 34 (c :: (r.take m ++ R)) = m + 1 := by rw [closedLen_cons, if_pos hc, qr_back 34 r m R hm]; simp [upto]; omega
            rw [first_cons, if_neg h10, if_neg hL, hnl _ hX, if_neg (by omega), hcl2, if_pos (by omega)]
          · rw [if_neg hA] at hf
            by_cases hB : 2 < closedLen 39 (c :: r)
            · rw [if_pos hB] at hf
              rw [hf] at ha ⊢
              obtain ⟨hc, m, hm, hcl⟩ := closed_head 39 c r (by omega)
              dsimp only at ha ⊢
              rw [hcl] at ha hB ⊢
              rw [List.drop_succ_cons] at ha
              rw [List.take_succ_cons, List.cons_append]
              have hX : Ag (r.take m ++ R) r := by have := Ag.app (r.take m) ha; rwa [List.take_append_drop] at this
              have hcl2 : closedLen 39 (c :: (r.take m ++ R)) = m + 1 := by rw [closedLen_cons, if_pos hc, qr_back 39 r m R hm]; simp [upto]; omega
              have hcl3 : closedLen 34 (c :: (r.take m ++ R)) = 0 := by rw [closedLen_cons, if_neg (by rw [hc]; decide)]
              rw [first_cons, if_neg h10, if_neg hL, hnl _ hX, if_neg (by omega), hcl3, if_neg (by omega), hcl2, if_pos hB]
            · rw [if_neg hB] at hf
              by_cases hC : 0 < signLen (c :: r)
              · rw [if_pos hC] at hf
                rw [hf] at ha ⊢
                dsimp only at ha ⊢
                obtain ⟨h34, h39⟩ := sign_head c r hC
                obtain ⟨n, hn⟩ : ∃ n, signLen (c :: r) = n + 1 := ⟨signLen (c :: r) - 1, by omega⟩
                rw [hn] at ha ⊢
                have hb := sign_back (c :: r) R (n + 1) hn (by omega) ha
                rw [List.drop_succ_cons] at ha
                rw [List.take_succ_cons, List.cons_append] at hb ⊢
                have hX : Ag (r.take n ++ R) r := by have := Ag.app (r.take n) ha; rwa [List.take_append_drop] at this
                have hcl1 : closedLen 34 (c :: (r.take n ++ R)) = 0 := by rw [closedLen_cons, if_neg h34]
                have hcl2 : closedLen 39 (c :: (r.take n ++ R)) = 0 := by rw [closedLen_cons, if_neg h39]
                rw [first_cons, if_neg h10, if_neg hL, hnl _ hX, if_neg (by omega), hcl1, if_neg (by omega), hcl2, if_neg (by omega), hb, if_pos (by omega)]
              · rw [if_neg hC] at hf
                rw [hf] at hk
                exact absurd rfl hk
end Go.Proofs.YtognifnalfjdgaaGreatDoor.Lx
