/- What is proved: plain facts on the tokens of a text: each Str stands between quotes; how long texts are. -/
import Derived.Test.YtnkheejpmkflaaaDoorLx3
import Derived.Test.YtnkheejpmkflaaaDoorDy
namespace Go.Proofs.YtnkheejpmkflaaaDoor.Dx
open Go.Lib
open Sp (Ch)
open Lx (T tk)

theorem qr_last (q : UInt8) : ∀ (l : List UInt8) (m : Nat), Lx.qr q l = some m → ∃ u, l.take m = u ++ [q]
  | [], m, h => by simp [Lx.qr] at h
  | [c], m, h => by
    unfold Lx.qr at h
    split at h
    · cases h
    · split at h
      · rename_i hc; injection h with h; subst h; exact ⟨[], by simp [hc]⟩
      · cases h
  | c :: d :: r, m, h => by
    unfold Lx.qr at h
    split at h
    · cases h
    · split at h
      · rename_i hc; injection h with h; subst h; exact ⟨[], by simp [hc]⟩
      · split at h
        · split at h
          · cases h
          · obtain ⟨k, hk, rfl⟩ := Option.map_eq_some_iff.1 h
            obtain ⟨u, hu⟩ := qr_last q r k hk
            exact ⟨c :: d :: u, by rw [List.take_succ_cons, List.take_succ_cons, hu]; rfl⟩
        · obtain ⟨k, hk, rfl⟩ := Option.map_eq_some_iff.1 h
          obtain ⟨u, hu⟩ := qr_last q (d :: r) k hk
          exact ⟨c :: u, by rw [List.take_succ_cons, hu]; rfl⟩

theorem str_text (l : List UInt8) (h : (Lx.first l).1 = 4) : ∃ m, l.take (Lx.first l).2 = 34 :: m ++ [34] := by
  cases l with
  | nil => simp [Lx.first] at h
  | cons c r =>
    rw [Lx.first_cons] at h ⊢
    split at h
    · cases h
    · split at h
      · cases h
      · split at h
        · cases h
        · split at h
          · rename_i h1 h2 h3 h4
            rw [if_neg h1, if_neg h2, if_neg h3, if_pos h4]
            obtain ⟨hc, m, hm, e⟩ := Lx.closed_head 34 c r h4
            obtain ⟨u, hu⟩ := qr_last 34 r m hm
            dsimp only
            rw [e, List.take_succ_cons, hu, hc]
            exact ⟨u, rfl⟩
          · split at h
            · cases h
            · split at h <;> cases h

theorem tk_quoted : ∀ (p : Bool) (l : List Ch), ∀ t ∈ tk p l, t.kind = 4 → ∃ m, t.text = 34 :: m ++ [34] := by
  refine Lx.tkInd ?_ ?_ ?_
  · intro p t ht; simp [Lx.tk_nil] at ht
  · intro p l hb ih t ht hk
    rw [Lx.tk_blank p l hb] at ht
    exact ih t ht hk
  · intro p l hl hb ih t ht hk
    rw [Lx.tk_tok p l hl hb] at ht
    rcases List.mem_cons.1 ht with rfl | ht
    · exact str_text _ hk
    · exact ih t ht hk

theorem quoted_all (f : Int) (p : Bool) (l : List Ch) : QuotedAll ((tk p l).map (ofT f)) := by
  intro t ht hk
  obtain ⟨x, hx, rfl⟩ := List.mem_map.1 ht
  obtain ⟨m, hm⟩ := tk_quoted p l x hx (by have : (x.kind : Int) = 4 := hk; omega)
  exact ⟨m, by show (⟨x.text.toArray⟩ : ByteArray) = _; rw [hm]⟩

/-- How long texts are, a byte more for each. -/
def wt : List K → Nat
  | [] => 0
  | t :: r => t.text.size + 1 + wt r
theorem wt_append (a b : List K) : wt (a ++ b) = wt a + wt b := by
  induction a with
  | nil => simp [wt]
  | cons t r ih => simp [wt, ih]; omega
theorem wt_part (ts : List K) (a b : Nat) : wt ((ts.drop a).take b) ≤ wt ts := by
  have h1 : wt ts = wt (ts.take a) + wt (ts.drop a) := by rw [← wt_append, List.take_append_drop]
  have h2 : wt (ts.drop a) = wt ((ts.drop a).take b) + wt ((ts.drop a).drop b) := by rw [← wt_append, List.take_append_drop]
  omega
theorem wt_drop (ts : List K) (a : Nat) : wt (ts.drop a) ≤ wt ts := by
  have h1 : wt ts = wt (ts.take a) + wt (ts.drop a) := by rw [← wt_append, List.take_append_drop]
  omega
theorem wt_mem (ts : List K) : ∀ t ∈ ts, t.text.size ≤ wt ts := by
  induction ts with
  | nil => intro t h; simp at h
  | cons x r ih =>
    intro t h
    rcases List.mem_cons.1 h with rfl | h
    · simp [wt]; omega
    · have := ih t h; simp [wt]; omega
theorem wt_len (ts : List K) : ts.length ≤ wt ts := by
  induction ts with
  | nil => simp [wt]
  | cons x r ih => simp [wt]; omega
theorem jn_wt (ts : List K) : ∀ i, (jnFrom i ts).length ≤ wt ts := by
  induction ts with
  | nil => intro i; simp [jnFrom]
  | cons x r ih =>
    intro i
    have := ih (i + 1)
    have hs : x.text.data.toList.length = x.text.size := size_list x.text
    simp only [jnFrom, wt, List.length_append, piece]
    split <;> simp <;> omega
theorem tk_wt (f : Int) : ∀ (p : Bool) (l : List Ch), wt ((tk p l).map (ofT f)) ≤ 2 * l.length := by
  refine Lx.tkInd ?_ ?_ ?_
  · intro p; simp [Lx.tk_nil, wt]
  · intro p l hb ih
    rw [Lx.tk_blank p l hb]
    rw [List.length_drop] at ih
    omega
  · intro p l hl hb ih
    have h1 := Lx.first_len l hl
    rw [Lx.tk_tok p l hl hb, List.map_cons, wt]
    rw [List.length_drop] at ih
    have hs : (ofT f (Lx.tokAt p l)).text.size ≤ (Lx.first (Lx.bytes l)).2 := by
      show (⟨(Lx.tokAt p l).text.toArray⟩ : ByteArray).size ≤ _
      rw [mk_size]
      unfold Lx.tokAt
      dsimp only
      rw [List.length_take]; omega
    omega

/-- Tokens that are few, and whose Strs stand between quotes. -/
def Fit (ts : List K) : Prop := wt ts ≤ 1000000 ∧ QuotedAll ts
theorem Fit.part {ts : List K} (h : Fit ts) (a b : Nat) : Fit ((ts.drop a).take b) :=
  ⟨Nat.le_trans (wt_part ts a b) h.1, fun t ht hk => h.2 t (List.mem_of_mem_drop (List.mem_of_mem_take ht)) hk⟩
theorem Fit.drop {ts : List K} (h : Fit ts) (a : Nat) : Fit (ts.drop a) :=
  ⟨Nat.le_trans (wt_drop ts a) h.1, fun t ht hk => h.2 t (List.mem_of_mem_drop ht) hk⟩
theorem Fit.len {ts : List K} (h : Fit ts) : ts.length ≤ 1000000 := Nat.le_trans (wt_len ts) h.1
theorem Fit.sizes {ts : List K} (h : Fit ts) : ∀ t ∈ ts, t.text.size ≤ 1000000000 := fun t ht => by have := wt_mem ts t ht; have := h.1; omega
theorem Fit.join {ts : List K} (h : Fit ts) : ∀ a b, (jn ((ts.drop a).take b)).length ≤ 1000000000 := fun a b => by
  have h1 := jn_wt ((ts.drop a).take b) 0
  have h2 := wt_part ts a b
  have h3 := h.1
  unfold jn
  omega
/-- The tokens of a text, with all that they hold. -/
def ks (s : ByteArray) : List K := (tk false (Sp.left 0 s.data.toList)).map (ofT 0)
theorem fit_ks (s : ByteArray) (h : s.size ≤ 100000) : Fit (ks s) := by
  refine ⟨?_, quoted_all 0 false _⟩
  have h1 := tk_wt 0 false (Sp.left 0 s.data.toList)
  have h2 := Sp.left_le 0 s.data.toList
  rw [size_list] at h2
  unfold ks
  omega
theorem lines_fit {ts : List K} (h : Fit ts) : ∀ x ∈ lines ts, Fit x.toks := fun x hx => by
  obtain ⟨c, _, rfl⟩ := List.mem_map.1 hx
  exact (h.part c.1 c.2).drop _
theorem lines_len (ts : List K) : (lines ts).length ≤ ts.length := by
  unfold lines
  rw [List.length_map]
  exact cuts_length ts
theorem lines_toks (ts : List K) : ∀ x ∈ lines ts, x.toks.length ≤ ts.length := fun x hx => by
  obtain ⟨c, _, rfl⟩ := List.mem_map.1 hx
  show (((ts.drop c.1).take c.2).drop _).length ≤ _
  rw [List.length_drop, List.length_take, List.length_drop]
  omega
/-- The first line of a text. -/
def firstLn (s : ByteArray) : Ln := match lines (ks s) with
  | [] => ⟨0, 0, 0, []⟩
  | x :: _ => x
theorem firstLn_fit (s : ByteArray) (h : s.size ≤ 100000) : Fit (firstLn s).toks := by
  unfold firstLn
  split
  · exact ⟨by simp [wt], fun t ht => by simp at ht⟩
  · rename_i x _ e
    exact lines_fit (fit_ks s h) x (by rw [e]; simp)
end Go.Proofs.YtnkheejpmkflaaaDoor.Dx
