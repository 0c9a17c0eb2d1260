/- What is proved: plain facts on a text's tokens: made a string and read again; each alone; how long. -/
import Derived.Test.YtlkcmegjbdibcaaDoorY2
import Derived.Test.YtlkcmegjbdibcaaDoorY3
namespace Go.Proofs.YtlkcmegjbdibcaaDoor
namespace Gl
open Lx (tb first blankLen)

theorem fine_of (s : List UInt8) (f : Int) (h : ∀ t ∈ Lx.tk false (Sp.left 0 s), t.kind ≠ 6) : ∀ t ∈ (Lx.tk false (Sp.left 0 s)).map (ofT f), Fine t := by
  intro t ht
  obtain ⟨x, hx, rfl⟩ := List.mem_map.1 ht
  have hf := tb_fine false (Lx.bytes (Sp.left 0 s)) (by
    rw [← Lx.tk_al]
    intro t ht
    obtain ⟨y, hy, rfl⟩ := List.mem_map.1 ht
    exact h y hy) (Lx.al x) (by rw [← Lx.tk_al]; exact List.mem_map_of_mem hx)
  unfold Fine
  simp only [Lx.al] at hf
  show (x.kind : Int) = 7 ∨ (10 ∉ x.text ∧ ((x.kind : Int) = 3 ∨ (x.kind : Int) = 4 ∨ ∀ c ∈ x.text, c ≠ 34 ∧ c ≠ 92))
  rcases hf with h7 | ⟨h10, h3 | h4 | hc⟩
  · exact .inl (by omega)
  · exact .inr ⟨h10, .inl (by omega)⟩
  · exact .inr ⟨h10, .inr (.inl (by omega))⟩
  · exact .inr ⟨h10, .inr (.inr hc)⟩
/-- What was made a string says what it was, and is one token. -/
theorem back_of {l : List K} (h : ∀ t ∈ l, Fine t) : unquote (34 :: (txt true false false l ++ [34])) = some (txt false false false l) ∧ ∃ x, oneOf (34 :: (txt true false false l ++ [34])) = some x ∧ x.kind = 4 := by
  have hu := txt_unq l false false h
  have h10 := txt_no10 true l false false h
  refine ⟨by rw [unquote_quoted]; exact hu, ?_⟩
  have ht := tb_quoted (txt true false false l) ⟨_, hu⟩ h10
  obtain ⟨x, hx, hk, -⟩ := one_alone ht (fun ha => by
    have := Lx.adj_mem _ ha
    simp only [List.mem_cons, List.mem_append, List.not_mem_nil, or_false] at this
    rcases this with e | e | e
    · cases e
    · exact h10 e
    · cases e) (by decide)
  exact ⟨x, hx, hk⟩
theorem nl_text : ∀ (p : Bool) (u : List UInt8), ∀ t ∈ tb p u, t.1 = 7 → t.2.1 = [10] := by
  refine Lx.tbInd ?_ ?_ ?_
  · intro p t ht; simp [Lx.tb_nil] at ht
  · intro p u hb ih
    rw [Lx.tb_blank p u hb]
    exact ih
  · intro p u hu hb ih t ht
    rw [Lx.tb_tok p u hu hb] at ht
    rcases List.mem_cons.1 ht with rfl | ht
    · intro hk
      dsimp only at hk ⊢
      cases u with
      | nil => exact absurd rfl hu
      | cons c r =>
        by_cases hc : c = 10
        · subst hc
          have : first (10 :: r) = (7, 1) := by rw [Lx.first_cons, if_pos rfl]
          rw [this]
          rfl
        · exfalso
          rw [Lx.first_cons, if_neg hc] at hk
          repeat' split at hk
          all_goals cases hk
    · exact ih t ht
/-- Each token of a text alone: One tells it, or, of a line end, nothing. -/
theorem alone_of (s : List UInt8) (t : Lx.T) (ht : t ∈ Lx.tk false (Sp.left 0 s)) : (t.kind ≠ 7 ∧ ∃ x, oneOf t.text = some x ∧ x.kind = t.kind ∧ x.text = t.text) ∨ (t.kind = 7 ∧ oneOf t.text = none) := by
  have hm : Lx.al t ∈ tb false (Lx.bytes (Sp.left 0 s)) := by rw [← Lx.tk_al]; exact List.mem_map_of_mem ht
  obtain ⟨h1, h2⟩ := toks_alone false _ _ hm
  simp only [Lx.al] at h1 h2
  by_cases h7 : t.kind = 7
  · refine .inr ⟨h7, ?_⟩
    have hx := nl_text false _ _ hm h7
    simp only [Lx.al] at hx
    rw [hx]
    decide +kernel
  · exact .inl ⟨h7, one_alone h1 (h2.resolve_left h7) h7⟩
theorem wr_len (q : Bool) (t : K) : (wr q t).length ≤ 2 * t.text.size := by
  have h1 := esc_len t.text.data.toList
  have h2 : t.text.data.toList.length = t.text.size := by rw [Array.length_toList]; rfl
  unfold wr
  split <;> omega
theorem txt_len (q : Bool) (m : Nat) : ∀ (l : List K) (seen gap : Bool), (∀ t ∈ l, t.text.size ≤ m) → (txt q seen gap l).length ≤ l.length * (2 * m + 1)
  | [], _, _, _ => by simp [txt]
  | t :: r, seen, gap, h => by
    have ih := fun s g => txt_len q m r s g (fun x hx => h x (List.mem_cons_of_mem _ hx))
    have hw := wr_len q t
    have hm := h t List.mem_cons_self
    rw [List.length_cons, Nat.succ_mul]
    cases h7 : (t.kind == 7) with
    | true =>
      have e : txt q seen gap (t :: r) = txt q seen true r := by simp [txt, h7]
      rw [e]
      have := ih seen true
      omega
    | false =>
      have e : txt q seen gap (t :: r) = (if seen && (t.bl || gap) then [32] else []) ++ wr q t ++ txt q true false r := by simp [txt, h7]
      rw [e]
      have := ih true false
      simp only [List.length_append]
      split <;> simp <;> omega
end Gl
end Go.Proofs.YtlkcmegjbdibcaaDoor
