/- What is proved: slices of tokens in memory. -/
import Derived.Test.YtlkcmegjbdibcaaDoorW4
namespace Go.Proofs.YtlkcmegjbdibcaaDoor
open Go.RowKit Go.Shelf
open Lx (T)

/-- A token's six cells. -/
def cellsOne (f : Int) (t : T) : List Value := [.int .i64 t.kind, .string ⟨t.text.toArray⟩, .int .i64 f, .int .i64 t.fr, .int .i64 t.to, .bool t.bl]
/-- The cells of tokens. -/
def tokCells (f : Int) : List T → List Value
  | [] => []
  | t :: r => cellsOne f t ++ tokCells f r
theorem tokCells_append (f : Int) (a b : List T) : tokCells f (a ++ b) = tokCells f a ++ tokCells f b := by
  induction a with
  | nil => rfl
  | cons x r ih => simp [tokCells, ih]
theorem tokCells_length (f : Int) (a : List T) : (tokCells f a).length = a.length * 6 := by
  induction a with
  | nil => rfl
  | cons x r ih => simp [tokCells, cellsOne, ih]; omega
theorem tokCells_get (f : Int) (a : List T) : ∀ i t, a[i]? = some t → ∀ j v, (cellsOne f t)[j]? = some v → (tokCells f a)[i * 6 + j]? = some v := by
  induction a with
  | nil => intro i x h; simp at h
  | cons y r ih =>
    intro i t h j v hj
    have h6 : (cellsOne f y).length = 6 := rfl
    cases i with
    | zero =>
      simp at h; subst h
      have hlt := (List.getElem?_eq_some_iff.1 hj).1
      rw [tokCells, List.getElem?_append_left (by omega), Nat.zero_mul, Nat.zero_add]
      exact hj
    | succ i =>
      simp at h
      rw [tokCells, List.getElem?_append_right (by omega), h6, show (i + 1) * 6 + j - 6 = i * 6 + j by omega]
      exact ih i t h j v hj

/-- The cells at a place are a token's. -/
def TokAt (W : World) (g o : Nat) (f : Int) (t : T) : Prop :=
  W.cell? ⟨g, o, none⟩ = some (.int .i64 t.kind) ∧ W.cell? ⟨g, o + 1, none⟩ = some (.string ⟨t.text.toArray⟩) ∧ W.cell? ⟨g, o + 2, none⟩ = some (.int .i64 f) ∧
  W.cell? ⟨g, o + 3, none⟩ = some (.int .i64 t.fr) ∧ W.cell? ⟨g, o + 4, none⟩ = some (.int .i64 t.to) ∧ W.cell? ⟨g, o + 5, none⟩ = some (.bool t.bl)
theorem TokAt.below {W W' : World} {g o n : Nat} {f : Int} {t : T} (h : TokAt W g o f t) (hb : Below n W W') (hg : g < n) : TokAt W' g o f t := by
  obtain ⟨h0, h1, h2, h3, h4, h5⟩ := h
  exact ⟨(hb.cell (p := ⟨g, o, none⟩) hg).trans h0, (hb.cell (p := ⟨g, o + 1, none⟩) hg).trans h1, (hb.cell (p := ⟨g, o + 2, none⟩) hg).trans h2,
    (hb.cell (p := ⟨g, o + 3, none⟩) hg).trans h3, (hb.cell (p := ⟨g, o + 4, none⟩) hg).trans h4, (hb.cell (p := ⟨g, o + 5, none⟩) hg).trans h5⟩

/-- A slice value whose elements are these tokens. -/
def Toks (W : World) (v : Value) (f : Int) (ts : List T) : Prop :=
  ∃ ad cap, v = .slice ad ts.length cap ∧ ts.length ≤ cap ∧ cap ≤ maxLen ∧ ∀ i t, ts[i]? = some t → ∃ g o, ad = some ⟨g, o, none⟩ ∧ TokAt W g (o + i * 6) f t

theorem Toks.below {W W' : World} {v : Value} {f : Int} {ts : List T} (h : Toks W v f ts) (hb : Below W.heap.size W W') : Toks W' v f ts := by
  obtain ⟨ad, cap, rfl, h1, h2, h3⟩ := h
  refine ⟨ad, cap, rfl, h1, h2, fun i t ht => ?_⟩
  obtain ⟨g, o, e, c⟩ := h3 i t ht
  exact ⟨g, o, e, c.below hb (lt_of_cell c.1)⟩

theorem Toks.of_row {W : World} {base : Nat} {v : Value} {f : Int} {ts : List T} (h : W.ownsRow base 26 6 v ts.length (tokCells f ts)) : Toks W v f ts := by
  have hc := fun g => h.cells (g := g)
  rcases h.2 with ⟨rfl, h0⟩ | ⟨g, cap, cur, rfl, _, _, h1, h2, _, _⟩
  · refine ⟨none, 0, by rw [h0], by omega, Nat.zero_le _, fun i x hx => ?_⟩
    rw [List.length_eq_zero_iff.1 h0] at hx
    simp at hx
  · refine ⟨_, cap, rfl, h1, h2, fun i t ht => ⟨g, 0, rfl, ?_⟩⟩
    have key : ∀ j v, (cellsOne f t)[j]? = some v → W.cell? ⟨g, 0 + (i * 6 + j), none⟩ = some v := fun j v hj => by
      have := hc g rfl (i * 6 + j) v (tokCells_get f ts i t ht j v hj)
      rwa [add_none] at this
    refine ⟨key 0 _ rfl, ?_, ?_, ?_, ?_, ?_⟩
    · exact key 1 _ rfl
    · exact key 2 _ rfl
    · exact key 3 _ rfl
    · exact key 4 _ rfl
    · exact key 5 _ rfl

theorem Toks.cells {W : World} {ad : Option Addr} {n cap : Nat} {f : Int} {ts : List T} (h : Toks W (.slice ad n cap) f ts) (hl : 0 < ts.length) :
    ∃ g o, ad = some ⟨g, o, none⟩ ∧ n = ts.length ∧ ts.length ≤ cap ∧ cap ≤ maxLen ∧ g < W.heap.size ∧ ∀ i t, ts[i]? = some t → TokAt W g (o + i * 6) f t := by
  obtain ⟨ad', cap', e, h1, h2, h3⟩ := h
  injection e with e1 e2 e3
  subst e1 e2 e3
  obtain ⟨g, o, rfl, c0⟩ := h3 0 _ (List.getElem?_eq_getElem hl)
  refine ⟨g, o, rfl, rfl, h1, h2, lt_of_cell c0.1, fun i x hx => ?_⟩
  obtain ⟨g', o', e, d⟩ := h3 i x hx
  injection e with e
  injection e with e4 e5
  subst e4 e5
  exact d

theorem infoTok : (Tryd.prog.info? 26).map (fun i => (i.zero, i.size, i.bytes)) = some (some (.agg #[.int .i64 0, .string ByteArray.empty, .int .i64 0, .int .i64 0, .int .i64 0, .bool false]), 6, 56) := by kernel_rfl

/-- Tokens: new memory that holds just the tokens of a text. -/
def ToksPost (w : World) (f : Int) (ts : List T) (e : Ending) (w' : World) : Prop := ∃ v, e = .returned v ∧ Toks w' v f ts ∧ Below w.heap.size w w'

/-- What has come when l is passed up to place k, and what is still to come. -/
def Sofar (l : List Sp.Ch) (k : Nat) (p : Bool) (acc : List T) : Prop := k ≤ l.length ∧ acc.length ≤ k ∧ Lx.tk false l = acc ++ Lx.tk p (l.drop k)
theorem sofar_start (l : List Sp.Ch) : Sofar l 0 false [] := ⟨Nat.zero_le _, Nat.le_refl _, by simp⟩
theorem sofar_end {l : List Sp.Ch} {k : Nat} {p : Bool} {acc : List T} (h : Sofar l k p acc) (hk : l.length ≤ k) : acc = Lx.tk false l := by
  rw [h.2.2, List.drop_of_length_le hk, Lx.tk_nil]; simp
theorem sofar_blank {l : List Sp.Ch} {k : Nat} {p : Bool} {acc : List T} (h : Sofar l k p acc) (hb : 0 < Lx.blankLen (Lx.bytes (l.drop k))) :
    k + Lx.blankLen (Lx.bytes (l.drop k)) ≤ l.length ∧ Sofar l (k + Lx.blankLen (Lx.bytes (l.drop k))) true acc := by
  have h1 := Lx.blank_len (l.drop k)
  rw [List.length_drop] at h1
  have h2 := h.1
  refine ⟨by omega, by omega, by have := h.2.1; omega, ?_⟩
  rw [h.2.2, Lx.tk_blank p _ hb, List.drop_drop]
theorem sofar_tok {l : List Sp.Ch} {k : Nat} {p : Bool} {acc : List T} (h : Sofar l k p acc) (hk : k < l.length) (hb : Lx.blankLen (Lx.bytes (l.drop k)) = 0) :
    0 < (Lx.first (Lx.bytes (l.drop k))).2 ∧ k + (Lx.first (Lx.bytes (l.drop k))).2 ≤ l.length ∧ Sofar l (k + (Lx.first (Lx.bytes (l.drop k))).2) false (acc ++ [Lx.tokAt p (l.drop k)]) := by
  have hl : l.drop k ≠ [] := by rw [Ne, List.drop_eq_nil_iff]; omega
  have h1 := Lx.first_len (l.drop k) hl
  rw [List.length_drop] at h1
  have h2 := h.1
  refine ⟨h1.1, by omega, by omega, by have := h.2.1; simp; omega, ?_⟩
  rw [h.2.2, Lx.tk_tok p _ hl hb, List.drop_drop]
  simp
end Go.Proofs.YtlkcmegjbdibcaaDoor
