/- What is proved: slices of tokens, of any kind, in memory. -/
import Derived.Test.YtlkcmegjbdibcaaDoorTok
namespace Go.Proofs.YtlkcmegjbdibcaaDoor
open Go.RowKit Go.Shelf
open Lx (T)

theorem Below.then {w w1 w2 : World} (h : Below w.heap.size w w1) (k : Below w1.heap.size w1 w2) : Below w.heap.size w w2 := h.trans (k.mono h.size)
/-- A law's answer. -/
def TruePost (w : World) (e : Ending) (w' : World) : Prop := e = .returned (.bool true) ∧ Below w.heap.size w w'

/-- A token with all that it holds. -/
structure K where
  kind : Int
  text : ByteArray
  file : Int
  fr : Int
  en : Int
  bl : Bool

def ofT (f : Int) (t : T) : K := ⟨t.kind, ⟨t.text.toArray⟩, f, t.fr, t.to, t.bl⟩
/-- A token's six cells. -/
def kCells (t : K) : List Value := [.int .i64 t.kind, .string t.text, .int .i64 t.file, .int .i64 t.fr, .int .i64 t.en, .bool t.bl]
def ksCells : List K → List Value
  | [] => []
  | t :: r => kCells t ++ ksCells r
theorem ksCells_append (a b : List K) : ksCells (a ++ b) = ksCells a ++ ksCells b := by
  induction a with
  | nil => rfl
  | cons x r ih => simp [ksCells, ih]
theorem ksCells_length (a : List K) : (ksCells a).length = a.length * 6 := by
  induction a with
  | nil => rfl
  | cons x r ih => simp [ksCells, kCells, ih]; omega
theorem ksCells_get (a : List K) : ∀ i t, a[i]? = some t → ∀ j v, (kCells t)[j]? = some v → (ksCells a)[i * 6 + j]? = some v := by
  induction a with
  | nil => intro i x h; simp at h
  | cons y r ih =>
    intro i t h j v hj
    have h6 : (kCells y).length = 6 := rfl
    cases i with
    | zero =>
      simp at h; subst h
      have hlt := (List.getElem?_eq_some_iff.1 hj).1
      rw [ksCells, List.getElem?_append_left (by omega), Nat.zero_mul, Nat.zero_add]
      exact hj
    | succ i =>
      simp at h
      rw [ksCells, List.getElem?_append_right (by omega), h6, show (i + 1) * 6 + j - 6 = i * 6 + j by omega]
      exact ih i t h j v hj
theorem ksCells_one (a : List K) : ∀ u ∈ ksCells a, u.oneCell' = true := by
  induction a with
  | nil => intro u hu; simp [ksCells] at hu
  | cons x r ih =>
    intro u hu
    rcases List.mem_append.1 hu with h | h
    · simp only [kCells, List.mem_cons, List.not_mem_nil, or_false] at h
      rcases h with rfl | rfl | rfl | rfl | rfl | rfl <;> rfl
    · exact ih u h

/-- The cells at a place are a token's. -/
def KAt (W : World) (g o : Nat) (t : K) : Prop :=
  W.cell? ⟨g, o, none⟩ = some (.int .i64 t.kind) ∧ W.cell? ⟨g, o + 1, none⟩ = some (.string t.text) ∧ W.cell? ⟨g, o + 2, none⟩ = some (.int .i64 t.file) ∧
  W.cell? ⟨g, o + 3, none⟩ = some (.int .i64 t.fr) ∧ W.cell? ⟨g, o + 4, none⟩ = some (.int .i64 t.en) ∧ W.cell? ⟨g, o + 5, none⟩ = some (.bool t.bl)
theorem KAt.kept {W W' : World} {g o : Nat} {t : K} (h : KAt W g o t) (hb : W'.heap[g]? = W.heap[g]?) : KAt W' g o t := by
  obtain ⟨h0, h1, h2, h3, h4, h5⟩ := h
  have k := fun o : Nat => World.cell?_of_block (a := ⟨g, o, none⟩) hb
  exact ⟨(k _).trans h0, (k _).trans h1, (k _).trans h2, (k _).trans h3, (k _).trans h4, (k _).trans h5⟩
theorem KAt.below {W W' : World} {g o n : Nat} {t : K} (h : KAt W g o t) (hb : Below n W W') (hg : g < n) : KAt W' g o t := h.kept (hb.block g hg)

/-- A slice value whose elements are these tokens. -/
def Ks (W : World) (v : Value) (ts : List K) : Prop :=
  ∃ ad cap, v = .slice ad ts.length cap ∧ ts.length ≤ cap ∧ cap ≤ maxLen ∧ ∀ i t, ts[i]? = some t → ∃ g o, ad = some ⟨g, o, none⟩ ∧ KAt W g (o + i * 6) t

theorem Ks.kept {W W' : World} {v : Value} {ts : List K} (h : Ks W v ts) (hb : ∀ g o n cap, v = .slice (some ⟨g, o, none⟩) n cap → g < W.heap.size → W'.heap[g]? = W.heap[g]?) : Ks W' v ts := by
  obtain ⟨ad, cap, rfl, h1, h2, h3⟩ := h
  refine ⟨ad, cap, rfl, h1, h2, fun i t ht => ?_⟩
  obtain ⟨g, o, e, c⟩ := h3 i t ht
  exact ⟨g, o, e, c.kept (hb g o _ _ (by rw [e]) (lt_of_cell c.1))⟩
theorem Ks.below {W W' : World} {v : Value} {ts : List K} (h : Ks W v ts) (hb : Below W.heap.size W W') : Ks W' v ts :=
  h.kept fun g _ _ _ _ hg => hb.block g hg

theorem Toks.ks {W : World} {v : Value} {f : Int} {ts : List T} (h : Toks W v f ts) : Ks W v (ts.map (ofT f)) := by
  obtain ⟨ad, cap, rfl, h1, h2, h3⟩ := h
  refine ⟨ad, cap, by rw [List.length_map], by rw [List.length_map]; exact h1, h2, fun i t ht => ?_⟩
  rw [List.getElem?_map] at ht
  obtain ⟨x, hx, rfl⟩ := Option.map_eq_some_iff.1 ht
  exact h3 i x hx

theorem Ks.of_row {W : World} {base : Nat} {v : Value} {ts : List K} (h : W.ownsRow base 26 6 v ts.length (ksCells ts)) : Ks W v ts := by
  have hc := fun g => h.cells (g := g)
  rcases h.2 with ⟨rfl, h0⟩ | ⟨g, cap, cur, rfl, _, _, h1, h2, _, _⟩
  · refine ⟨none, 0, by rw [h0], by omega, Nat.zero_le _, fun i x hx => ?_⟩
    rw [List.length_eq_zero_iff.1 h0] at hx
    simp at hx
  · refine ⟨_, cap, rfl, h1, h2, fun i t ht => ⟨g, 0, rfl, ?_⟩⟩
    have key : ∀ j v, (kCells t)[j]? = some v → W.cell? ⟨g, 0 + (i * 6 + j), none⟩ = some v := fun j v hj => by
      have := hc g rfl (i * 6 + j) v (ksCells_get ts i t ht j v hj)
      rwa [add_none] at this
    refine ⟨key 0 _ rfl, ?_, ?_, ?_, ?_, ?_⟩
    · exact key 1 _ rfl
    · exact key 2 _ rfl
    · exact key 3 _ rfl
    · exact key 4 _ rfl
    · exact key 5 _ rfl

theorem Ks.cells {W : World} {ad : Option Addr} {n cap : Nat} {ts : List K} (h : Ks W (.slice ad n cap) ts) (hl : 0 < ts.length) :
    ∃ g o, ad = some ⟨g, o, none⟩ ∧ n = ts.length ∧ ts.length ≤ cap ∧ cap ≤ maxLen ∧ g < W.heap.size ∧ ∀ i t, ts[i]? = some t → KAt W g (o + i * 6) t := by
  obtain ⟨ad', cap', e, h1, h2, h3⟩ := h
  injection e with e1 e2 e3
  subst e1 e2 e3
  obtain ⟨g, o, rfl, c0⟩ := h3 0 _ (List.getElem?_eq_getElem hl)
  refine ⟨g, o, rfl, rfl, h1, h2, lt_of_cell c0.1, fun i x hx => ?_⟩
  obtain ⟨g', o', e, d⟩ := h3 i x hx
  injection e with e
  injection e with e4 e5
  subst e4 e5
  exact d

/-- What a slice of a slice of tokens is, its address left open where nothing is left. -/
theorem Ks.part {W : World} {g o n cap : Nat} {ts : List K} (h : Ks W (.slice (some ⟨g, o, none⟩) n cap) ts) (a b : Nat) (hab : a ≤ b) (hb : b ≤ ts.length) :
    Ks W (.slice (some ⟨g, o + a * 6, none⟩) (b - a) (cap - a)) ((ts.drop a).take (b - a)) := by
  obtain ⟨ad', cap', e, h1, h2, h3⟩ := h
  injection e with e1 e2 e3
  subst e1 e2 e3
  have hl : ((ts.drop a).take (b - a)).length = b - a := by rw [List.length_take, List.length_drop]; omega
  refine ⟨_, cap - a, by rw [hl], by rw [hl]; omega, by omega, fun i t ht => ?_⟩
  rw [List.getElem?_take] at ht
  split at ht
  · rw [List.getElem?_drop] at ht
    obtain ⟨g', o', e', ha⟩ := h3 _ t ht
    injection e' with e'
    injection e' with e4 e5
    subst e4 e5
    exact ⟨g, o + a * 6, rfl, by rw [show o + a * 6 + i * 6 = o + (a + i) * 6 by omega]; exact ha⟩
  · cases ht
theorem Ks.none_at (W : World) (ad : Option Addr) (cap : Nat) (hc : cap ≤ maxLen) : Ks W (.slice ad 0 cap) [] :=
  ⟨ad, cap, rfl, Nat.zero_le _, hc, fun i t ht => by simp at ht⟩
/-- A token's value. -/
def kAgg (t : K) : Value := .agg #[.int .i64 t.kind, .string t.text, .int .i64 t.file, .int .i64 t.fr, .int .i64 t.en, .bool t.bl]

end Go.Proofs.YtlkcmegjbdibcaaDoor
