/- What is proved: slices of numbers. -/
import Derived.Test.YtflmbmcfoigioaaDoorText
import Derived.Laws.OwnMore
import Derived.WalkSmall
namespace Go.Proofs.YtflmbmcfoigioaaDoor
open Go.RowKit Go.Shelf

/-- A slice value whose elements are these numbers. -/
def Ints (W : World) (v : Value) (ps : List Int) : Prop :=
  ∃ ad cap, v = .slice ad ps.length cap ∧ ps.length ≤ cap ∧ cap ≤ maxLen ∧ ∀ i p, ps[i]? = some p → ∃ g o, ad = some ⟨g, o, none⟩ ∧ W.cell? ⟨g, o + i, none⟩ = some (.int .i64 p)

theorem Ints.below {W W' : World} {v : Value} {ps : List Int} (h : Ints W v ps) (hb : Below W.heap.size W W') : Ints W' v ps := by
  obtain ⟨ad, cap, rfl, h1, h2, h3⟩ := h
  refine ⟨ad, cap, rfl, h1, h2, fun i x hx => ?_⟩
  obtain ⟨g, o, e, c0⟩ := h3 i x hx
  exact ⟨g, o, e, (hb.cell (p := ⟨g, o + i, none⟩) (lt_of_cell c0)).trans c0⟩

theorem Ints.cells {W : World} {ad : Option Addr} {n cap : Nat} {ps : List Int} (h : Ints W (.slice ad n cap) ps) (hl : 0 < ps.length) :
    ∃ g o, ad = some ⟨g, o, none⟩ ∧ n = ps.length ∧ ps.length ≤ cap ∧ cap ≤ maxLen ∧ g < W.heap.size ∧ ∀ i p, ps[i]? = some p → W.cell? ⟨g, o + i, none⟩ = some (.int .i64 p) := by
  obtain ⟨ad', cap', e, h1, h2, h3⟩ := h
  injection e with e1 e2 e3
  subst e1 e2 e3
  obtain ⟨g, o, rfl, c0⟩ := h3 0 _ (List.getElem?_eq_getElem hl)
  refine ⟨g, o, rfl, rfl, h1, h2, lt_of_cell c0, fun i x hx => ?_⟩
  obtain ⟨g', o', e, d0⟩ := h3 i x hx
  injection e with e
  injection e with e4 e5
  subst e4 e5
  exact d0

theorem spr_room (t : List UInt8) (f : Nat → Nat) (k : Nat) (hk : k ≤ 1000001) (hf : ∀ i, f i ≤ 10000) (j : Nat) (hj : j ≤ f k) : (Sp.spr t f k ++ Sp.prs j).length ≤ 50000000000 := by
  have h1 := Sp.spr_length t f 10000 hf k
  have h2 : k * (2 * 10000 + 1) ≤ 1000001 * 20001 := Nat.mul_le_mul hk (by omega)
  have h3 := hf k
  rw [List.length_append, Sp.prs_length]
  omega

end Go.Proofs.YtflmbmcfoigioaaDoor
