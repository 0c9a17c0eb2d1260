/- What is proved: plain facts: a token's text alone is that token. -/
import Derived.Test.YtlkcmegjbdibcaaDoorO1
import Derived.Test.YtlkcmegjbdibcaaDoorY1
namespace Go.Proofs.YtlkcmegjbdibcaaDoor
namespace Gl
open Lx (tb first blankLen)

theorem sign_one (c : UInt8) (r : List UInt8) (h : ¬ 0 < Lx.signLen (c :: r)) : Lx.signLen [c] = 0 := by
  rw [Lx.sign_ref] at h ⊢
  unfold Lx.refSign at h ⊢
  have h3 : Lx.threes.any (·.isPrefixOf [c]) = false := by simp [Lx.threes, List.isPrefixOf]
  have h2 : Lx.twos.any (·.isPrefixOf [c]) = false := by simp [Lx.twos, List.isPrefixOf]
  rw [h3, h2]
  have h1 : Lx.ones.any (·.isPrefixOf [c]) = false := by
    cases he : Lx.ones.any (·.isPrefixOf [c]) with
    | false => rfl
    | true =>
      exfalso
      have : Lx.ones.any (·.isPrefixOf (c :: r)) = true := by
        obtain ⟨s, hs, hp⟩ := List.any_eq_true.1 he
        refine List.any_eq_true.2 ⟨s, hs, ?_⟩
        obtain ⟨d, -, rfl⟩ := List.mem_map.1 hs
        simp only [List.isPrefixOf, Bool.and_true] at hp ⊢
        exact hp
      rw [this] at h
      split at h
      · exact h (by omega)
      · split at h
        · exact h (by omega)
        · exact h (by simp)
  rw [h1]
  rfl
theorem first_six (c : UInt8) (r : List UInt8) (hk : (first (c :: r)).1 = 6) : first (c :: r) = (6, 1) ∧ c ≠ 10 ∧ ¬ Lx.letter c = true ∧ ¬ 0 < Lx.numLen (c :: r) ∧ ¬ 0 < Lx.signLen (c :: r) := by
  rw [Lx.first_cons] at hk ⊢
  by_cases hc : c = 10
  · rw [if_pos hc] at hk; cases hk
  · rw [if_neg hc] at hk ⊢
    by_cases hA : Lx.letter c = true
    · rw [if_pos hA] at hk; cases hk
    · rw [if_neg hA] at hk ⊢
      by_cases hN : 0 < Lx.numLen (c :: r)
      · rw [if_pos hN] at hk; cases hk
      · rw [if_neg hN] at hk ⊢
        by_cases hS : 0 < Lx.closedLen 34 (c :: r)
        · rw [if_pos hS] at hk; cases hk
        · rw [if_neg hS] at hk ⊢
          by_cases hQ : 2 < Lx.closedLen 39 (c :: r)
          · rw [if_pos hQ] at hk; cases hk
          · rw [if_neg hQ] at hk ⊢
            by_cases hP : 0 < Lx.signLen (c :: r)
            · rw [if_pos hP] at hk; cases hk
            · rw [if_neg hP]; exact ⟨rfl, hc, hA, hN, hP⟩
theorem first_alone (u : List UInt8) (hu : u ≠ []) : first (u.take (first u).2) = first u := by
  by_cases hk : (first u).1 = 6
  · cases u with
    | nil => exact absurd rfl hu
    | cons c r =>
      have hf := first_six c r hk
      obtain ⟨h0, h1, h2, h3, h4⟩ := hf
      rw [h0]
      show first [c] = (6, 1)
      have n1 : Lx.numLen [c] = 0 := by
        rw [Lx.numLen_cons]
        split
        · rename_i hd
          exfalso
          simp only [Lx.headDigit, Bool.and_false, Bool.or_false] at hd
          rw [Lx.numLen_cons, if_pos (by simp [hd])] at h3
          omega
        · rfl
      have n2 : Lx.closedLen 34 [c] = 0 := by rw [Lx.closedLen_cons]; split <;> rfl
      have n3 : Lx.closedLen 39 [c] = 0 := by rw [Lx.closedLen_cons]; split <;> rfl
      rw [Lx.first_cons, n1, n2, n3, sign_one c r h4, if_neg h1, if_neg h2]
      rfl
  · have := Lx.first_back u [] hu hk (Lx.Ag.nil _)
    rwa [List.append_nil] at this
theorem slash_sign (s : List UInt8) (h : s ∈ Lx.signTab) (h7 : s.head? = some 47) : s = [47] ∨ s = [47, 61] := by
  have hall : (Lx.signTab.all fun s => !(s.head? == some 47) || (s == [47] || s == [47, 61])) = true := by decide +kernel
  have := List.all_eq_true.1 hall s h
  simpa [h7] using this
theorem blank_alone (u : List UInt8) (hu : u ≠ []) (hb : blankLen u = 0) : blankLen (u.take (first u).2) = 0 := by
  have hle := Lx.first_le u hu
  cases u with
  | nil => exact absurd rfl hu
  | cons c r =>
    obtain ⟨n, hn⟩ : ∃ n, (first (c :: r)).2 = n + 1 := ⟨(first (c :: r)).2 - 1, by omega⟩
    rw [hn, List.take_succ_cons]
    have hbl : Lx.isBl c = false := by
      cases h : Lx.isBl c with
      | false => rfl
      | true => rw [Lx.blankLen_cons, if_pos h] at hb; cases hb
    by_cases hc : c = 47
    · subst hc
      have hN : ¬ 0 < Lx.numLen (47 :: r) := by rw [Lx.numLen_cons, if_neg (by simp [show Lx.digit 47 = false by decide])]; omega
      have hS : ¬ 0 < Lx.closedLen 34 (47 :: r) := by rw [Lx.closedLen_cons, if_neg (by decide)]; omega
      have hQ : ¬ 2 < Lx.closedLen 39 (47 :: r) := by rw [Lx.closedLen_cons, if_neg (by decide)]; omega
      have hP : 0 < Lx.signLen (47 :: r) := by
        rw [Lx.sign_ref]
        unfold Lx.refSign
        have h1 : Lx.ones.any (·.isPrefixOf (47 :: r)) = true := by simp [Lx.ones, Lx.oneBytes, List.isPrefixOf]
        rw [h1]
        split
        · omega
        · split
          · omega
          · simp
      have hf : first (47 :: r) = (5, Lx.signLen (47 :: r)) := by rw [Lx.first_cons, if_neg (by decide), if_neg (by decide), if_neg hN, if_neg hS, if_neg hQ, if_pos hP]
      have hm := Lx.sign_word (47 :: r) hP
      rw [hf] at hn
      dsimp only at hn
      rw [hn, List.take_succ_cons] at hm
      rcases slash_sign _ hm rfl with e | e <;> rw [e] <;> decide +kernel
    · rw [Lx.blank_noslash c _ hc, if_neg (by rw [hbl]; simp)]
theorem tb_alone (u : List UInt8) (hu : u ≠ []) (hb : blankLen u = 0) : tb false (u.take (first u).2) = [((first u).1, u.take (first u).2, false)] := by
  have hle := Lx.first_le u hu
  have hl : (u.take (first u).2).length = (first u).2 := by rw [List.length_take]; omega
  rw [Lx.tb_tok false _ (by intro e; rw [e] at hl; simp at hl; omega) (blank_alone u hu hb), first_alone u hu]
  rw [List.take_of_length_le (by omega), List.drop_of_length_le (by omega), Lx.tb_nil]
/-- A token of a text, alone. -/
theorem toks_alone : ∀ (p : Bool) (u : List UInt8), ∀ t ∈ tb p u, tb false t.2.1 = [(t.1, t.2.1, false)] ∧ (t.1 = 7 ∨ ¬ Lx.adj t.2.1) := by
  refine Lx.tbInd ?_ ?_ ?_
  · intro p t ht; simp [Lx.tb_nil] at ht
  · intro p u hb ih
    rw [Lx.tb_blank p u hb]
    exact ih
  · intro p u hu hb ih t ht
    rw [Lx.tb_tok p u hu hb] at ht
    rcases List.mem_cons.1 ht with rfl | ht
    · refine ⟨tb_alone u hu hb, ?_⟩
      dsimp only
      by_cases hk : (first u).1 = 6
      · refine .inr ?_
        have h1 : (first u).2 = 1 := by
          cases u with
          | nil => exact absurd rfl hu
          | cons c r => rw [(first_six c r hk).1]
        rw [h1]
        cases u with
        | nil => exact absurd rfl hu
        | cons c r => exact id
      · rcases (Lx.first_good u hu hk).2.1 with e | e
        · by_cases h7 : (first u).1 = 7
          · exact .inl h7
          · rcases tok_fine u hu hk with h | h
            · exact absurd h h7
            · exact .inr fun ha => h.1 (Lx.adj_mem _ ha)
        · exact .inr fun ha => e (Lx.adj_mem _ ha)
    · exact ih t ht
/-- What One tells of a token's text. -/
theorem one_alone {w : List UInt8} {k : Nat} (h : tb false w = [(k, w, false)]) (ha : ¬ Lx.adj w) (h7 : k ≠ 7) : ∃ x, oneOf w = some x ∧ x.kind = k ∧ x.text = w := by
  have e := Lx.tk_al false (Sp.left 0 w)
  rw [Lx.left_noadj w ha, h] at e
  obtain ⟨x, hx, hy⟩ := List.map_eq_singleton_iff.1 e
  simp only [Lx.al, Prod.mk.injEq] at hy
  refine ⟨x, ?_, hy.1, hy.2.1⟩
  unfold oneOf
  rw [hx]
  dsimp only
  rw [if_pos ⟨by rw [hy.1]; exact h7, by rw [hy.2.1]⟩]
theorem one_whole {w : List UInt8} {x : Lx.T} (h : oneOf w = some x) : x.text = w := by
  unfold oneOf at h
  split at h
  · rename_i y hy
    split at h
    · rename_i hc
      injection h with h
      subst h
      exact (Lx.one_full w y hy hc.2).1
    · cases h
  · cases h
end Gl
end Go.Proofs.YtlkcmegjbdibcaaDoor
