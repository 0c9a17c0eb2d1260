/- What is proved: plain facts on texts made strings: what was escaped is read again; such a text is one token. -/
import Derived.Test.YtlkcmegjbdibcaaDoorKt
import Derived.Test.YtlkcmegjbdibcaaDoorLx4
namespace Go.Proofs.YtlkcmegjbdibcaaDoor
namespace Gl
open Lx (tb first blankLen)

def esc (l : List UInt8) : List UInt8 := l.flatMap fun c => if c = 92 ∨ c = 34 then [92, c] else [c]
/-- What stands between the quotes says. -/
def unq : List UInt8 → Option (List UInt8)
  | [] => some []
  | [c] => if c = 34 ∨ c = 92 then none else some [c]
  | c :: d :: r => if c = 34 then none else if c = 92 then (unq r).map (d :: ·) else (unq (d :: r)).map (c :: ·)
theorem unq_cons {c : UInt8} (h1 : c ≠ 34) (h2 : c ≠ 92) (X : List UInt8) : unq (c :: X) = (unq X).map (c :: ·) := by
  cases X with
  | nil => simp [unq, h1, h2]
  | cons d r => rw [unq, if_neg h1, if_neg h2]
theorem unq_two (d : UInt8) (X : List UInt8) : unq (92 :: d :: X) = (unq X).map (d :: ·) := by
  rw [unq, if_neg (by decide), if_pos rfl]
theorem unq_esc : ∀ (l X : List UInt8), unq (esc l ++ X) = (unq X).map (l ++ ·)
  | [], X => by
    show unq X = _
    cases unq X <;> rfl
  | c :: l, X => by
    have ih := unq_esc l X
    by_cases hc : c = 92 ∨ c = 34
    · have e : esc (c :: l) = 92 :: c :: esc l := by simp [esc, hc]
      rw [e, List.cons_append, List.cons_append, unq_two, ih]
      cases unq X <;> rfl
    · have e : esc (c :: l) = c :: esc l := by simp [esc, hc]
      rw [e, List.cons_append, unq_cons (fun h => hc (.inr h)) (fun h => hc (.inl h)), ih]
      cases unq X <;> rfl
theorem unq_raw : ∀ (l X : List UInt8), (∀ c ∈ l, c ≠ 34 ∧ c ≠ 92) → unq (l ++ X) = (unq X).map (l ++ ·)
  | [], X, _ => by
    show unq X = _
    cases unq X <;> rfl
  | c :: l, X, h => by
    obtain ⟨h1, h2⟩ := h c (by simp)
    rw [List.cons_append, unq_cons h1 h2, unq_raw l X (fun x hx => h x (List.mem_cons_of_mem _ hx))]
    cases unq X <;> rfl
/-- The second quote stands at the end. -/
theorem qr_unq : ∀ (X : List UInt8), (∃ y, unq X = some y) → 10 ∉ X → Lx.qr 34 (X ++ [34]) = some (X.length + 1)
  | [], _, _ => by simp [Lx.qr]
  | [c], h, h10 => by
    obtain ⟨y, hy⟩ := h
    unfold unq at hy
    split at hy
    · cases hy
    · rename_i hc
      have h1 : c ≠ 34 := fun e => hc (.inl e)
      have h2 : c ≠ 92 := fun e => hc (.inr e)
      have h3 : c ≠ 10 := fun e => h10 (by simp [e])
      simp [Lx.qr, h1, h2, h3]
  | c :: d :: r, h, h10 => by
    obtain ⟨y, hy⟩ := h
    have h3 : c ≠ 10 := fun e => h10 (by simp [e])
    have h4 : d ≠ 10 := fun e => h10 (by simp [e])
    unfold unq at hy
    split at hy
    · cases hy
    · rename_i h1
      split at hy
      · rename_i h2
        obtain ⟨z, hz, _⟩ := Option.map_eq_some_iff.1 hy
        have ih := qr_unq r ⟨z, hz⟩ (fun h => h10 (by simp [h]))
        rw [List.cons_append, List.cons_append, Lx.qr, if_neg h3, if_neg h1, if_pos h2, if_neg h4, ih]
        simp
      · rename_i h2
        obtain ⟨z, hz, _⟩ := Option.map_eq_some_iff.1 hy
        have ih := qr_unq (d :: r) ⟨z, hz⟩ (fun h => h10 (List.mem_cons_of_mem _ h))
        rw [List.cons_append, List.cons_append, Lx.qr, if_neg h3, if_neg h1, if_neg h2, ← List.cons_append, ih]
        simp
/-- A text between quotes is one token. -/
theorem tb_quoted (X : List UInt8) (h : ∃ y, unq X = some y) (h10 : 10 ∉ X) : tb false (34 :: (X ++ [34])) = [(4, 34 :: (X ++ [34]), false)] := by
  have hq := qr_unq X h h10
  have hb : blankLen (34 :: (X ++ [34])) = 0 := by rw [Lx.blank_noslash 34 _ (by decide), if_neg (by decide)]
  have hn : Lx.numLen (34 :: (X ++ [34])) = 0 := by rw [Lx.numLen_cons, if_neg (by simp [show Lx.digit 34 = false by decide])]
  have hc : Lx.closedLen 34 (34 :: (X ++ [34])) = X.length + 2 := by rw [Lx.closedLen_cons, if_pos rfl, hq]; simp [Lx.upto]; omega
  have hf : first (34 :: (X ++ [34])) = (4, X.length + 2) := by
    rw [Lx.first_cons, hn, hc]
    simp [show Lx.letter 34 = false by decide]
  have hl : (34 :: (X ++ [34])).length = X.length + 2 := by simp
  rw [Lx.tb_tok false _ (by simp) hb, hf]
  dsimp only
  rw [List.take_of_length_le (by omega), List.drop_of_length_le (by omega), Lx.tb_nil]

/-- What is written of a token. -/
def wr (q : Bool) (t : K) : List UInt8 := if q && (t.kind == 4 || t.kind == 3) then esc t.text.data.toList else t.text.data.toList
/-- What is written of tokens: did one stand ahead, and a line end since? -/
def txt (q : Bool) : Bool → Bool → List K → List UInt8
  | _, _, [] => []
  | seen, gap, t :: r => if t.kind == 7 then txt q seen true r else ((if seen && (t.bl || gap) then [32] else []) ++ wr q t) ++ txt q true false r
/-- What a text's tokens that are no Others have. -/
def Fine (t : K) : Prop := t.kind = 7 ∨ (10 ∉ t.text.data.toList ∧ (t.kind = 3 ∨ t.kind = 4 ∨ ∀ c ∈ t.text.data.toList, c ≠ 34 ∧ c ≠ 92))
theorem txt_unq : ∀ (l : List K) (seen gap : Bool), (∀ t ∈ l, Fine t) → unq (txt true seen gap l) = some (txt false seen gap l)
  | [], _, _, _ => rfl
  | t :: r, seen, gap, h => by
    have ih := fun s g => txt_unq r s g (fun x hx => h x (List.mem_cons_of_mem _ hx))
    by_cases h7 : t.kind = 7
    · have e : (t.kind == 7) = true := by simpa using h7
      simp only [txt, e, if_true]
      exact ih seen true
    · have e : (t.kind == 7) = false := by simpa using h7
      have hf := (h t (by simp)).resolve_left h7
      simp only [txt, e, Bool.false_eq_true, if_false]
      have hw : ∀ X, unq (wr true t ++ X) = (unq X).map (t.text.data.toList ++ ·) := by
        intro X
        by_cases hk : t.kind = 3 ∨ t.kind = 4
        · have e2 : (true && (t.kind == 4 || t.kind == 3)) = true := by rcases hk with h | h <;> simp [h]
          rw [wr, if_pos e2]; exact unq_esc _ X
        · have e2 : ¬ (true && (t.kind == 4 || t.kind == 3)) = true := by simp; exact ⟨fun h => hk (.inr h), fun h => hk (.inl h)⟩
          rw [wr, if_neg e2]
          refine unq_raw _ X ?_
          rcases hf.2 with h | h | h
          · exact absurd (.inl h) hk
          · exact absurd (.inr h) hk
          · exact h
      have e3 : wr false t = t.text.data.toList := by simp [wr]
      rw [e3, List.append_assoc, List.append_assoc]
      have key : unq (wr true t ++ txt true true false r) = some (t.text.data.toList ++ txt false true false r) := by rw [hw, ih]; rfl
      by_cases hs : (seen && (t.bl || gap)) = true
      · rw [if_pos hs]
        show unq (32 :: (wr true t ++ txt true true false r)) = _
        rw [unq_cons (by decide) (by decide), key]
        rfl
      · rw [if_neg hs]
        exact key
theorem esc_no10 (l : List UInt8) (h : 10 ∉ l) : 10 ∉ esc l := by
  intro h10
  obtain ⟨c, hc, hx⟩ := List.mem_flatMap.1 h10
  split at hx
  · simp at hx; exact h (hx ▸ hc)
  · simp at hx; exact h (hx ▸ hc)
theorem txt_no10 (q : Bool) : ∀ (l : List K) (seen gap : Bool), (∀ t ∈ l, Fine t) → 10 ∉ txt q seen gap l
  | [], _, _, _ => by simp [txt]
  | t :: r, seen, gap, h => by
    have ih := fun s g => txt_no10 q r s g (fun x hx => h x (List.mem_cons_of_mem _ hx))
    by_cases h7 : t.kind = 7
    · have e : (t.kind == 7) = true := by simpa using h7
      simp only [txt, e, if_true]
      exact ih seen true
    · have e : (t.kind == 7) = false := by simpa using h7
      have hf := (h t (by simp)).resolve_left h7
      simp only [txt, e, Bool.false_eq_true, if_false]
      intro hm
      rcases List.mem_append.1 hm with hm | hm
      · rcases List.mem_append.1 hm with hm | hm
        · split at hm <;> simp at hm
        · unfold wr at hm
          split at hm
          · exact esc_no10 _ hf.1 hm
          · exact hf.1 hm
      · exact ih true false hm
/-- A text's tokens that are no Others are fine. -/
theorem tok_fine (u : List UInt8) (hu : u ≠ []) (hk : (first u).1 ≠ 6) : (first u).1 = 7 ∨ (10 ∉ u.take (first u).2 ∧ ((first u).1 = 3 ∨ (first u).1 = 4 ∨ ∀ c ∈ u.take (first u).2, c ≠ 34 ∧ c ≠ 92)) := by
  have hg := Lx.first_good u hu hk
  by_cases h7 : (first u).1 = 7
  · exact .inl h7
  · refine .inr ⟨?_, ?_⟩
    · rcases hg.2.1 with e | e
      · exfalso
        cases u with
        | nil => exact hu rfl
        | cons c r =>
          have hlen := (Lx.first_le (c :: r) hu).1
          have : c = 10 := by
            have := congrArg List.head? e
            rw [List.head?_take] at this
            simpa [show (first (c :: r)).2 ≠ 0 by omega] using this
          subst this
          rw [Lx.first_cons, if_pos rfl] at h7
          exact h7 rfl
      · exact e
    · cases u with
      | nil => exact absurd rfl hu
      | cons c r =>
        rw [Lx.first_cons] at hk h7 ⊢
        by_cases hc : c = 10
        · rw [if_pos hc] at h7; exact absurd rfl h7
        · rw [if_neg hc] at hk ⊢
          by_cases hA : Lx.letter c = true
          · rw [if_pos hA]
            refine .inr (.inr fun x hx => ?_)
            dsimp only at hx
            rw [show Lx.wordLen (c :: r) = ((c :: r).takeWhile Lx.alnum).length from rfl, Lx.takeWhile_take_len] at hx
            have h1 := Lx.mem_takeWhile _ _ x hx
            constructor
            · intro e; rw [e] at h1; revert h1; decide
            · intro e; rw [e] at h1; revert h1; decide
          · rw [if_neg hA] at hk ⊢
            by_cases hN : 0 < Lx.numLen (c :: r)
            · rw [if_pos hN]
              refine .inr (.inr fun x hx => ?_)
              dsimp only at hx
              have hx2 : x = c ∧ Lx.numc c = true ∨ x ∈ r.take (Lx.numRest r) := by
                rw [Lx.numLen_cons] at hx hN
                split at hx
                · rename_i hd
                  rw [Nat.add_comm, List.take_succ_cons] at hx
                  rcases List.mem_cons.1 hx with e | hx
                  · refine .inl ⟨e, ?_⟩
                    simp only [Bool.or_eq_true, Bool.and_eq_true, beq_iff_eq] at hd
                    rcases hd with hd | ⟨hd, _⟩
                    · simp [Lx.numc, hd]
                    · subst hd; decide
                  · exact .inr hx
                · rename_i hd
                  rw [if_neg hd] at hN; omega
              have h1 : Lx.numc x = true ∨ Lx.isSg x = true := by
                rcases hx2 with ⟨rfl, h⟩ | h
                · exact .inl h
                · exact Lx.num_mem r x h
              constructor
              · intro e; rw [e] at h1; revert h1; decide
              · intro e; rw [e] at h1; revert h1; decide
            · rw [if_neg hN] at hk ⊢
              by_cases hS : 0 < Lx.closedLen 34 (c :: r)
              · rw [if_pos hS]; exact .inr (.inl rfl)
              · rw [if_neg hS] at hk ⊢
                by_cases hQ : 2 < Lx.closedLen 39 (c :: r)
                · rw [if_pos hQ]; exact .inl rfl
                · rw [if_neg hQ] at hk ⊢
                  by_cases hP : 0 < Lx.signLen (c :: r)
                  · rw [if_pos hP]
                    refine .inr (.inr ?_)
                    dsimp only
                    have hm := Lx.sign_word (c :: r) hP
                    have hall : ∀ s ∈ Lx.signTab, ∀ x ∈ s, x ≠ 34 ∧ x ≠ 92 := by decide
                    exact hall _ hm
                  · rw [if_neg hP] at hk; exact absurd rfl hk
theorem tb_fine : ∀ (p : Bool) (u : List UInt8), (∀ t ∈ tb p u, t.1 ≠ 6) → ∀ t ∈ tb p u, t.1 = 7 ∨ (10 ∉ t.2.1 ∧ (t.1 = 3 ∨ t.1 = 4 ∨ ∀ c ∈ t.2.1, c ≠ 34 ∧ c ≠ 92)) := by
  refine Lx.tbInd ?_ ?_ ?_
  · intro p _ t ht; simp [Lx.tb_nil] at ht
  · intro p u hb ih h
    rw [Lx.tb_blank p u hb] at h ⊢
    exact ih h
  · intro p u hu hb ih h
    have ht := Lx.tb_tok p u hu hb
    rw [ht] at h ⊢
    intro t htm
    rcases List.mem_cons.1 htm with rfl | htm
    · exact tok_fine u hu (h _ List.mem_cons_self)
    · exact ih (fun t htm => h t (List.mem_cons_of_mem _ htm)) t htm
end Gl
end Go.Proofs.YtlkcmegjbdibcaaDoor
