/- What is proved: plain facts: what is written of tokens, one behind the other; a string read byte by byte. -/
import Derived.Test.YtlkcmegjbdibcaaDoorY1
namespace Go.Proofs.YtlkcmegjbdibcaaDoor
namespace Gl

/-- What is there: the text, did a token stand ahead, and a line end since? -/
structure St where
  s : List UInt8
  seen : Bool
  gap : Bool
def St.zero : St := ⟨[], false, false⟩
def step (q : Bool) (x : St) (t : K) : St := if t.kind == 7 then ⟨x.s, x.seen, true⟩ else ⟨x.s ++ ((if x.seen && (t.bl || x.gap) then [32] else []) ++ wr q t), true, false⟩
def run (q : Bool) (l : List K) : St := l.foldl (step q) .zero
theorem fold_txt (q : Bool) : ∀ (l : List K) (x : St), (l.foldl (step q) x).s = x.s ++ txt q x.seen x.gap l
  | [], x => by simp [txt]
  | t :: r, x => by
    rw [List.foldl_cons, fold_txt q r]
    unfold step
    cases h : (t.kind == 7) with
    | true => simp [txt, h]
    | false => simp [txt, h, List.append_assoc]
theorem run_txt (q : Bool) (l : List K) : (run q l).s = txt q false false l := by
  have := fold_txt q l .zero
  simpa [run, St.zero] using this
theorem run_take (q : Bool) (l : List K) (k : Nat) (t : K) (h : l[k]? = some t) : run q (l.take (k + 1)) = step q (run q (l.take k)) t := by
  rw [List.take_add_one, h]
  simp [run, List.foldl_append]
theorem run_le (q : Bool) (l : List K) (k : Nat) : (run q (l.take k)).s.length ≤ (txt q false false l).length := by
  rw [← run_txt]
  conv => rhs; rw [← List.take_append_drop k l]
  unfold run
  rw [List.foldl_append, fold_txt q (l.drop k)]
  simp
theorem step_nl {q : Bool} {x : St} {t : K} (h : t.kind = 7) : step q x t = ⟨x.s, x.seen, true⟩ := by simp [step, h]
theorem step_tok {q : Bool} {x : St} {t : K} (h : t.kind ≠ 7) : step q x t = ⟨x.s ++ ((if x.seen && (t.bl || x.gap) then [32] else []) ++ wr q t), true, false⟩ := by
  have : (t.kind == 7) = false := by simpa using h
  simp [step, this]
theorem esc_take (l : List UInt8) (k : Nat) (c : UInt8) (h : l[k]? = some c) : esc (l.take (k + 1)) = esc (l.take k) ++ (if c = 92 ∨ c = 34 then [92, c] else [c]) := by
  rw [List.take_add_one, h]
  simp [esc]
theorem esc_len (l : List UInt8) : (esc l).length ≤ 2 * l.length := by
  induction l with
  | nil => simp [esc]
  | cons c r ih =>
    have : esc (c :: r) = (if c = 92 ∨ c = 34 then [92, c] else [c]) ++ esc r := by simp [esc]
    rw [this, List.length_append, List.length_cons]
    split <;> simp <;> omega

/-! A string's inside, read byte by byte. -/
/-- What was read so far goes with what is left. -/
def Way (M out : List UInt8) (i : Nat) : Prop := unq M = (unq (M.drop i)).map (out ++ ·)
theorem Way.start (M : List UInt8) : Way M [] 0 := by
  unfold Way
  rw [List.drop_zero]
  cases unq M <;> rfl
theorem drop_at {M : List UInt8} {i : Nat} {c : UInt8} (h : M[i]? = some c) : M.drop i = c :: M.drop (i + 1) := by
  obtain ⟨hi, e⟩ := List.getElem?_eq_some_iff.1 h
  rw [List.drop_eq_getElem_cons hi, e]
theorem Way.quote {M out : List UInt8} {i : Nat} (h : Way M out i) (hc : M[i]? = some 34) : unq M = none := by
  unfold Way at h
  rw [h, drop_at hc]
  cases M.drop (i + 1) with
  | nil => rfl
  | cons d r => simp [unq]
theorem Way.last {M out : List UInt8} {i : Nat} (h : Way M out i) (hc : M[i]? = some 92) (hl : M.length = i + 1) : unq M = none := by
  unfold Way at h
  rw [h, drop_at hc, List.drop_of_length_le (by omega)]
  rfl
theorem Way.pair {M out : List UInt8} {i : Nat} {d : UInt8} (h : Way M out i) (hc : M[i]? = some 92) (hd : M[i + 1]? = some d) : Way M (out ++ [d]) (i + 2) := by
  unfold Way at h ⊢
  rw [h, drop_at hc, drop_at hd, unq_two]
  cases unq (M.drop (i + 1 + 1)) with
  | none => rfl
  | some y => simp
theorem Way.one {M out : List UInt8} {i : Nat} {c : UInt8} (h : Way M out i) (hc : M[i]? = some c) (h1 : c ≠ 34) (h2 : c ≠ 92) : Way M (out ++ [c]) (i + 1) := by
  unfold Way at h ⊢
  rw [h, drop_at hc, unq_cons h1 h2]
  cases unq (M.drop (i + 1)) with
  | none => rfl
  | some y => simp
theorem Way.fin {M out : List UInt8} {i : Nat} (h : Way M out i) (hl : M.length ≤ i) : unq M = some out := by
  unfold Way at h
  rw [h, List.drop_of_length_le hl]
  simp [unq]
/-- What a text says as a string, or none. -/
def unquote (s : List UInt8) : Option (List UInt8) :=
  if 2 ≤ s.length ∧ s.head? = some 34 ∧ s.getLast? = some 34 then unq ((s.drop 1).dropLast) else none
theorem unquote_quoted (X : List UInt8) : unquote (34 :: (X ++ [34])) = unq X := by
  have h1 : (34 :: (X ++ [34])).getLast? = some 34 := by rw [← List.cons_append, List.getLast?_append]; rfl
  unfold unquote
  rw [if_pos ⟨by simp, rfl, h1⟩]
  simp
end Gl
end Go.Proofs.YtlkcmegjbdibcaaDoor
