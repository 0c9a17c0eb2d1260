/- What is proved: plain facts on tokens: what is printed is told again, token by token; it has no pair. (and what stands with it) -/
import Derived.Test.YtognifnalfjdgaaGreatDoorGm

/- What is proved: plain facts on tokens: what is printed is told again, token by token; it has no pair. -/
namespace Go.Proofs.YtognifnalfjdgaaGreatDoor.Lx
open Go.Lib
open Sp (Ch)

theorem occ_tail (c : UInt8) (r : List UInt8) (hb : blankLen (c :: r) = 0) (h : occ (prA (tb false (c :: r))).tail) : occ r := by
  rw [tb_tok false (c :: r) (by simp) hb, prA_cons] at h
  have hf := first_le (c :: r) (by simp)
  obtain ⟨n, hn⟩ : ∃ n, (first (c :: r)).2 = n + 1 := ⟨(first (c :: r)).2 - 1, by omega⟩
  rw [hn] at h
  dsimp only at h
  rw [if_neg (by simp), List.nil_append, List.take_succ_cons, List.cons_append, List.tail_cons, List.drop_succ_cons] at h
  have := occ_prA false _ _ h
  rwa [List.take_append_drop] at this

/-- What is printed from a token on begins with no blank, where the text did not. -/
theorem blank_back (u : List UInt8) (hu : u ≠ []) (hb : blankLen u = 0) : blankLen (u.take (first u).2 ++ prA (tb false (u.drop (first u).2))) = 0 := by
  have hf := first_le u hu
  have hag := prA_ag false (u.drop (first u).2)
  obtain ⟨n, hn⟩ : ∃ n, (first u).2 = n + 1 := ⟨(first u).2 - 1, by omega⟩
  rw [hn] at hag ⊢
  cases u with
  | nil => exact absurd rfl hu
  | cons c r =>
    rw [List.drop_succ_cons] at hag ⊢
    rw [List.take_succ_cons, List.cons_append]
    have hX : Ag (r.take n ++ prA (tb false (r.drop n))) r := by have := Ag.app (r.take n) hag; rwa [List.take_append_drop] at this
    rw [blankLen_cons] at hb ⊢
    split at hb
    · omega
    · rename_i hbl
      rw [if_neg hbl]
      obtain ⟨X, hXe⟩ : ∃ X, X = r.take n ++ prA (tb false (r.drop n)) := ⟨_, rfl⟩
      rw [← hXe] at hX ⊢
      rcases ag_head hX with rfl | ⟨y, rfl⟩ | ⟨d, X', r', hx, rfl, _⟩
      · rfl
      · rw [commentLen_cons, if_neg (fun e => absurd e.2 (by decide)), if_neg (fun e => absurd e.2 (by decide))]
      · rw [hx, commentLen_cons]
        rw [commentLen_cons] at hb
        by_cases h1 : c = 47 ∧ d = 47
        · exfalso
          rw [if_pos h1] at hb
          have : 0 < lineLen (c :: d :: r') := by
            unfold lineLen
            rw [List.takeWhile_cons, if_pos (by rw [h1.1]; decide)]
            simp
          omega
        · rw [if_neg h1] at hb ⊢
          by_cases h2 : c = 47 ∧ d = 42
          · rw [if_pos h2] at hb ⊢
            have hno : ¬ occ r' := by
              rw [occ_clos]
              cases hc : clos r' with
              | none => simp
              | some m => rw [hc] at hb; simp [upto] at hb
            have hno2 : ¬ occ X' := by
              intro ho
              apply hno
              cases n with
              | zero =>
                rw [List.take_zero, List.nil_append, List.drop_zero, hx] at hXe
                refine occ_tail d r' ?_ ?_
                · rw [blank_noslash d r' (by rw [h2.2]; decide), h2.2]; decide
                · rw [← hXe]; exact ho
              | succ n =>
                rw [List.take_succ_cons, List.cons_append, List.drop_succ_cons, hx] at hXe
                injection hXe with _ hXe
                rw [hXe] at ho
                have := occ_prA false _ _ ho
                rwa [List.take_append_drop] at this
            have : clos X' = none := by
              cases hc : clos X' with
              | none => rfl
              | some m => exact absurd ((occ_clos X').2 (by rw [hc]; simp)) hno2
            rw [this]; rfl
          · rw [if_neg h2]

/-- What is printed is told again. -/
theorem back : ∀ (p : Bool) (u : List UInt8), (∀ t ∈ tb p u, t.1 ≠ 6) → tb false (prA (tb p u)) = tb p u := by
  refine tbInd ?_ ?_ ?_
  · intro p _; rfl
  · intro p u hb ih h
    rw [tb_blank p u hb] at h ⊢
    exact ih h
  · intro p u hu hb ih h
    have ht := tb_tok p u hu hb
    rw [ht] at h ⊢
    have hk : (first u).1 ≠ 6 := h _ List.mem_cons_self
    have ih' := ih (fun t htm => h t (List.mem_cons_of_mem _ htm))
    have hf := first_le u hu
    have h1 := first_back u _ hu hk (prA_ag false (u.drop (first u).2))
    have h2 := blank_back u hu hb
    obtain ⟨Y, hY⟩ : ∃ Y, Y = u.take (first u).2 ++ prA (tb false (u.drop (first u).2)) := ⟨_, rfl⟩
    have hlen : (u.take (first u).2).length = (first u).2 := by rw [List.length_take]; omega
    have hYt : Y.take (first u).2 = u.take (first u).2 := by rw [hY, List.take_left' hlen]
    have hYd : Y.drop (first u).2 = prA (tb false (u.drop (first u).2)) := by rw [hY, List.drop_left' hlen]
    have hYn : Y ≠ [] := by
      intro e
      have := congrArg List.length hYt
      rw [e, hlen] at this
      simp at this
      omega
    rw [← hY] at h1 h2
    have key : ∀ q, tb q Y = ((first u).1, u.take (first u).2, q) :: tb false (u.drop (first u).2) := by
      intro q
      rw [tb_tok q Y hYn h2, h1, hYt, hYd, ih']
    rw [prA_cons]
    cases p with
    | false =>
      dsimp only
      rw [if_neg (by simp), List.nil_append, ← hY]
      exact key false
    | true =>
      dsimp only
      rw [if_pos rfl, List.append_assoc, ← hY]
      have hb32 : blankLen ([32] ++ Y) = 1 := by
        show blankLen (32 :: Y) = 1
        rw [blankLen_cons, if_pos (by decide)]
      rw [tb_blank false _ (by omega), hb32]
      exact key true

/-! ### What is printed has no pair -/
def adj : List UInt8 → Prop
  | [] => False
  | [_] => False
  | c :: d :: r => (c = 92 ∧ d = 10) ∨ adj (d :: r)
theorem adj_app : ∀ (a b : List UInt8), adj (a ++ b) → adj a ∨ adj b ∨ (a.getLast? = some 92 ∧ b.head? = some 10)
  | [], b, h => .inr (.inl h)
  | [c], b, h => by
    cases b with
    | nil => exact h.elim
    | cons d r =>
      rcases h with h | h
      · exact .inr (.inr ⟨by rw [h.1]; rfl, by rw [h.2]; rfl⟩)
      · exact .inr (.inl h)
  | c :: d :: a, b, h => by
    rcases h with h | h
    · exact .inl (.inl h)
    · rcases adj_app (d :: a) b h with h | h | ⟨h1, h2⟩
      · exact .inl (.inr h)
      · exact .inr (.inl h)
      · exact .inr (.inr ⟨by simpa [List.getLast?_cons] using h1, h2⟩)
theorem adj_mem : ∀ (w : List UInt8), adj w → 10 ∈ w
  | [], h => h.elim
  | [_], h => h.elim
  | c :: d :: r, h => by
    rcases h with h | h
    · rw [h.2]; simp
    · exact List.mem_cons_of_mem _ (adj_mem (d :: r) h)
theorem left_noadj (t : List UInt8) : ¬ adj t → ∀ k, bytes (Sp.left k t) = t := by
  induction t using Sp.ind with
  | h0 => intro _ k; rfl
  | hp r ih => intro h; exact absurd (.inl ⟨rfl, rfl⟩) h
  | h1 c r hc ih =>
    intro h k
    have hr : ¬ adj r := by
      intro e
      cases r with
      | nil => exact e
      | cons d r => exact h (.inr e)
    rw [Sp.left_one k c r hc]
    show c :: bytes (Sp.left (k + 1) r) = c :: r
    rw [ih hr]

/-- What a token's text does not have. -/
def Good (w : List UInt8) : Prop := w ≠ [] ∧ (w = [10] ∨ 10 ∉ w) ∧ w.getLast? ≠ some 92
theorem good_of_all (w : List UInt8) (h0 : w ≠ []) (h : ∀ c ∈ w, c ≠ 10 ∧ c ≠ 92) : Good w :=
  ⟨h0, .inr (fun e => (h 10 e).1 rfl), fun e => (h 92 (List.mem_of_getLast? e)).2 rfl⟩
theorem takeWhile_take_len (q : UInt8 → Bool) (u : List UInt8) : u.take (u.takeWhile q).length = u.takeWhile q :=
  (List.prefix_iff_eq_take.1 (List.takeWhile_prefix q)).symm
theorem mem_takeWhile (q : UInt8 → Bool) : ∀ (u : List UInt8) (c : UInt8), c ∈ u.takeWhile q → q c = true
  | [], c, h => by simp at h
  | d :: u, c, h => by
    rw [List.takeWhile_cons] at h
    split at h
    · rename_i hd
      rcases List.mem_cons.1 h with rfl | h
      · exact hd
      · exact mem_takeWhile q u c h
    · simp at h
theorem num_mem : ∀ (r : List UInt8), ∀ x ∈ r.take (numRest r), numc x = true ∨ isSg x = true
  | [], x, h => by simp at h
  | [c], x, h => by
    have e : numRest [c] = if numc c then 1 else 0 := rfl
    rw [e] at h
    split at h
    · rename_i hc; simp at h; subst h; exact .inl hc
    · simp at h
  | c :: d :: r, x, h => by
    have e : numRest (c :: d :: r) = if isE c && isSg d then 2 + numRest r else if numc c then 1 + numRest (d :: r) else 0 := rfl
    rw [e] at h
    split at h
    · rename_i hc
      rw [Bool.and_eq_true] at hc
      rw [show 2 + numRest r = numRest r + 1 + 1 by omega, List.take_succ_cons, List.take_succ_cons] at h
      rcases List.mem_cons.1 h with rfl | h
      · exact .inl (isE_numc _ hc.1)
      · rcases List.mem_cons.1 h with rfl | h
        · exact .inr hc.2
        · exact num_mem r x h
    · split at h
      · rename_i hc
        rw [show 1 + numRest (d :: r) = numRest (d :: r) + 1 by omega, List.take_succ_cons] at h
        rcases List.mem_cons.1 h with rfl | h
        · exact .inl hc
        · exact num_mem (d :: r) x h
      · simp at h
theorem qr_mem (q : UInt8) (hq : q ≠ 10) : ∀ (r : List UInt8) (m : Nat), qr q r = some m → (∀ x ∈ r.take m, x ≠ 10) ∧ (r.take m).getLast? = some q
  | [], m, h => by simp [qr] at h
  | [c], m, h => by
    have e : qr q [c] = if c = 10 then none else if c = q then some 1 else none := rfl
    rw [e] at h
    split at h
    · cases h
    · rename_i h10
      split at h
      · rename_i hc
        injection h with h; subst h
        rw [List.take_succ_cons, List.take_zero]
        exact ⟨fun x hx => by simp at hx; rw [hx]; exact h10, by rw [hc]; rfl⟩
      · cases h
  | c :: d :: r, m, h => by
    have e : qr q (c :: d :: r) = if c = 10 then none else if c = q then some 1 else if c = 92 then (if d = 10 then none else (qr q r).map (· + 2)) else (qr q (d :: r)).map (· + 1) := rfl
    rw [e] at h
    split at h
    · cases h
    · rename_i h10
      split at h
      · rename_i hc
        injection h with h; subst h
        rw [List.take_succ_cons, List.take_zero]
        exact ⟨fun x hx => by simp at hx; rw [hx]; exact h10, by rw [hc]; rfl⟩
      · split at h
        · split at h
          · cases h
          · rename_i hd
            obtain ⟨k, hk, rfl⟩ := Option.map_eq_some_iff.1 h
            obtain ⟨i1, i2⟩ := qr_mem q hq r k hk
            rw [List.take_succ_cons, List.take_succ_cons]
            refine ⟨fun x hx => ?_, by simp [List.getLast?_cons, i2]⟩
            rcases List.mem_cons.1 hx with rfl | hx
            · exact h10
            · rcases List.mem_cons.1 hx with rfl | hx
              · exact hd
              · exact i1 x hx
        · obtain ⟨k, hk, rfl⟩ := Option.map_eq_some_iff.1 h
          obtain ⟨i1, i2⟩ := qr_mem q hq (d :: r) k hk
          rw [List.take_succ_cons]
          refine ⟨fun x hx => ?_, by simp [List.getLast?_cons, i2]⟩
          rcases List.mem_cons.1 hx with rfl | hx
          · exact h10
          · exact i1 x hx
theorem numc_ok (x : UInt8) (h : numc x = true ∨ isSg x = true) : x ≠ 10 ∧ x ≠ 92 := by
  constructor
  · rintro rfl; revert h; decide
  · rintro rfl; revert h; decide
theorem first_good (u : List UInt8) (hu : u ≠ []) (hk : (first u).1 ≠ 6) : Good (u.take (first u).2) := by
  cases u with
  | nil => exact absurd rfl hu
  | cons c r =>
    have hf := first_cons c r
    by_cases h10 : c = 10
    · rw [if_pos h10] at hf
      rw [hf, h10]
      exact ⟨by simp, .inl rfl, by simp⟩
    · rw [if_neg h10] at hf
      by_cases hL : letter c = true
      · rw [if_pos hL] at hf
        rw [hf]
        dsimp only
        have e : (c :: r).take (wordLen (c :: r)) = (c :: r).takeWhile alnum := takeWhile_take_len alnum (c :: r)
        rw [e]
        refine good_of_all _ ?_ ?_
        · rw [List.takeWhile_cons, if_pos (by simp [alnum, hL])]; simp
        · intro x hx
          have := mem_takeWhile alnum _ x hx
          constructor
          · rintro rfl; revert this; decide
          · rintro rfl; revert this; decide
      · rw [if_neg hL] at hf
        by_cases hN : 0 < numLen (c :: r)
        · rw [if_pos hN] at hf
          rw [hf]
          dsimp only
          rw [numLen_cons] at hN ⊢
          split at hN
          · rename_i hst
            rw [if_pos hst, show 1 + numRest r = numRest r + 1 by omega, List.take_succ_cons]
            refine good_of_all _ (by simp) ?_
            intro x hx
            rcases List.mem_cons.1 hx with rfl | hx
            · constructor
              · rintro rfl; exact h10 rfl
              · rintro rfl; simp [show digit 92 = false from by decide] at hst
            · exact numc_ok x (num_mem r x hx)
          · omega
        · rw [if_neg hN] at hf
          have quoted : ∀ q : UInt8, q ≠ 10 → q ≠ 92 → 0 < closedLen q (c :: r) → Good ((c :: r).take (closedLen q (c :: r))) := by
            intro q hq1 hq2 h
            obtain ⟨hc, m, hm, hcl⟩ := closed_head q c r h
            obtain ⟨i1, i2⟩ := qr_mem q hq1 r m hm
            rw [hcl, List.take_succ_cons]
            refine ⟨by simp, .inr ?_, ?_⟩
            · intro e
              rcases List.mem_cons.1 e with e | e
              · exact h10 e.symm
              · exact i1 10 e rfl
            · rw [List.getLast?_cons, i2]
              simpa using hq2
          by_cases hA : 0 < closedLen 34 (c :: r)
          · rw [if_pos hA] at hf
            rw [hf]
            exact quoted 34 (by decide) (by decide) hA
          · rw [if_neg hA] at hf
            by_cases hB : 2 < closedLen 39 (c :: r)
            · rw [if_pos hB] at hf
              rw [hf]
              exact quoted 39 (by decide) (by decide) (by omega)
            · rw [if_neg hB] at hf
              by_cases hC : 0 < signLen (c :: r)
              · rw [if_pos hC] at hf
                rw [hf]
                dsimp only
                have hm := sign_word (c :: r) hC
                have hall : ∀ s ∈ signTab, s ≠ [] ∧ ∀ x ∈ s, x ≠ 10 ∧ x ≠ 92 := by decide
                exact good_of_all _ (hall _ hm).1 (hall _ hm).2
              · rw [if_neg hC] at hf
                rw [hf] at hk
                exact absurd rfl hk
theorem tb_good : ∀ (p : Bool) (u : List UInt8), (∀ t ∈ tb p u, t.1 ≠ 6) → ∀ t ∈ tb p u, Good t.2.1 := by
  refine tbInd ?_ ?_ ?_
  · intro p _ t ht; simp [tb_nil] at ht
  · intro p u hb ih h
    rw [tb_blank p u hb] at h ⊢
    exact ih h
  · intro p u hu hb ih h
    have ht := tb_tok p u hu hb
    rw [ht] at h ⊢
    intro t htm
    rcases List.mem_cons.1 htm with rfl | htm
    · exact first_good u hu (h _ List.mem_cons_self)
    · exact ih (fun t htm => h t (List.mem_cons_of_mem _ htm)) t htm
theorem prA_noadj : ∀ (ts : List (Nat × List UInt8 × Bool)), (∀ t ∈ ts, Good t.2.1) → ∀ v, ¬ adj v → v.getLast? ≠ some 92 → ¬ adj (v ++ prA ts)
  | [], _, v, h1, _ => by simpa [prA] using h1
  | t :: ts, hg, v, h1, h2 => by
    obtain ⟨g1, g2, g3⟩ := hg t (by simp)
    rw [prA_cons, ← List.append_assoc]
    have hw : ¬ adj t.2.1 := by
      rcases g2 with e | e
      · rw [e]; exact id
      · exact fun h => e (adj_mem _ h)
    have hlast : ∀ y, (y ++ t.2.1).getLast? = t.2.1.getLast? := by
      intro y
      rcases List.eq_nil_or_concat t.2.1 with e | ⟨z, c, e⟩
      · exact absurd e g1
      · rw [e]; simp
    refine prA_noadj ts (fun t' ht' => hg t' (List.mem_cons_of_mem _ ht')) _ ?_ ?_
    · rw [← List.append_assoc]
      intro h
      rcases adj_app _ _ h with h | h | ⟨h, _⟩
      · rcases adj_app _ _ h with h | h | ⟨h, _⟩
        · exact h1 h
        · split at h <;> exact h
        · exact h2 h
      · exact hw h
      · split at h
        · simp at h
        · rw [List.append_nil] at h; exact h2 h
    · rw [← List.append_assoc, hlast]
      exact g3

/-- PptokBack's mathematics: what is printed, told again. -/
theorem tk_back (l : List Ch) (h : ∀ t ∈ tk false l, t.kind ≠ 6) : (tk false (Sp.left 0 (pr (tk false l)))).map al = (tk false l).map al := by
  have h' : ∀ t ∈ tb false (bytes l), t.1 ≠ 6 := by
    intro t ht
    rw [← tk_al] at ht
    obtain ⟨x, hx, rfl⟩ := List.mem_map.1 ht
    exact h x hx
  have hp : pr (tk false l) = prA (tb false (bytes l)) := by unfold pr; rw [tk_al]
  have hn := prA_noadj (tb false (bytes l)) (tb_good false _ h') [] id (by simp)
  rw [List.nil_append] at hn
  rw [tk_al, tk_al, hp, left_noadj _ hn, back false _ h']

/-- PptokLines' mathematics: two lines' tokens. -/
theorem tk_lines (a b : List UInt8) (hl : a = [] ∨ a.getLast? ≠ some 92) (hs : ∀ c ∈ a, c ≠ 47) :
    ∃ q, (tk false (Sp.left 0 (a ++ 10 :: b))).map al = (tk false (Sp.left 0 a)).map al ++ (7, [10], q) :: (tk false (Sp.left 0 b)).map al := by
  have e : bytes (Sp.left 0 (a ++ 10 :: b)) = bytes (Sp.left 0 a) ++ 10 :: bytes (Sp.left 0 b) := by
    rw [left_line a b hl 0]
    unfold bytes
    rw [List.map_append, List.map_cons]
    congr 2
    exact Sp.left_fst _ _ b
  have hs' : ∀ c ∈ bytes (Sp.left 0 a), c ≠ 47 := by
    intro c hc
    obtain ⟨x, hx, rfl⟩ := List.mem_map.1 hc
    have := (Sp.left_at a 0 x hx).2
    exact hs _ (List.mem_of_getElem? this)
  rw [tk_al, tk_al, tk_al, e]
  exact tb_line _ false _ hs'
end Go.Proofs.YtognifnalfjdgaaGreatDoor.Lx
