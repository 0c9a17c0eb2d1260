/- What is proved: what known tells. -/
import Derived.Test.YtfjbmenakcnadaaDoorM3
import Derived.StringKeys
namespace Go.Proofs.YtfjbmenakcnadaaDoor
open Go.RowKit Go.Shelf Go.WideMaps

theorem MapOf.look {W : World} {mb : Nat} {ps : List ByteArray} {va : Bool} (h : MapOf W mb ps va) (x : ByteArray) (hx : x.size ≤ maxLen) :
    (Instr.lookup 70 (.map (some mb)) (.string x) true).run Tryd.prog W = .ok (.tuple #[.agg #[], .bool (Mx.has ps x || (va && decide (x = Mx.VA)))]) W := by
  obtain ⟨n, D, h1, _, h3⟩ := h
  obtain ⟨v, q, hr, hv⟩ := h1.look_ok keyStr Tryd.underlying70 (zeroUnit W) (unitElem_mk (H := Unit)) (keyOf_string_mk Tryd.underlying9 hx)
  obtain ⟨rfl, _⟩ := unitElem_inv hv
  rw [hr, h3 x hx]

def KnownPost (w : World) (b : Bool) (e : Ending) (w' : World) : Prop := e = .returned (.bool b) ∧ Below w.heap.size w w'

set_option maxRecDepth 100000 in
set_option maxHeartbeats 4000000 in
theorem known_any (base R mb : Nat) (nm : ByteArray) (fn : Bool) (pv : Value) (ps : List ByteArray) (va : Bool) (bv lv : Value) (l : List K) (t : K) (w : World)
    (h : Rd w base R mb nm fn pv ps va bv lv l) (ht : t.text.size ≤ maxLen) :
    Calls Tryd.prog 75 #[.pointer (some ⟨R, 0, none⟩), kAgg t] w (KnownPost w (Mx.known ps va t)) := by
  have c6 := (h.cell 6).trans rfl
  have hR := h.ltR
  obtain ⟨kind, tx, f, a, b, bl⟩ := t
  dsimp only at ht
  have hm0 := (h.keep (W' := w.alloc (.cells #[.int .i64 kind, .string tx, .int .i64 f, .int .i64 a, .int .i64 b, .bool bl] 39)) ((Below.refl _ w).alloc (Nat.le_refl _) _)).mp
  obtain ⟨q, hq⟩ : ∃ q, q = (Mx.has ps tx || (va && decide (tx = Mx.VA))) := ⟨_, rfl⟩
  have e : Mx.known ps va ⟨kind, tx, f, a, b, bl⟩ = (kind == 1 && q) := by rw [hq]; rfl
  rw [e]
  dsimp only [kAgg]
  go_enter Tryd.func75, Tryd.ntmps75
  go_wp2_with fail
  have hB0 : Below w.heap.size w (w.alloc (.cells #[.int .i64 kind, .string tx, .int .i64 f, .int .i64 a, .int .i64 b, .bool bl] 39)) := (Below.refl _ w).alloc (Nat.le_refl _) _
  have hblk := heap_alloc_new w (.cells #[.int .i64 kind, .string tx, .int .i64 f, .int .i64 a, .int .i64 b, .bool bl] 39)
  have d6 := (hB0.cell (p := ⟨R, 6, none⟩) hR).trans c6
  have e0 := (Lib.cell_of_heap hblk 0).trans rfl
  have e1 := (Lib.cell_of_heap hblk 1).trans rfl
  have hbl := lt_of_cell e0
  have hRW := lt_of_cell d6
  generalize (w.alloc (.cells #[.int .i64 kind, .string tx, .int .i64 f, .int .i64 a, .int .i64 b, .bool bl] 39)) = W at hm0 hB0 hblk d6 e0 e1 hbl hRW ⊢
  have l1 := hm0.look tx ht
  have l2 := MapOf.look (W := W.drew) hm0 tx ht
  have l3 := MapOf.look (W := (W.alloc (.cells #[] 101)).drew) (hm0.keep (W' := (W.alloc (.cells #[] 101)).drew) ⟨rfl, rfl, rfl, by simp, fun k hk _ => Below.heap_alloc W _ k hk⟩) tx ht
  rw [← hq] at l1 l2 l3
  clear hq e hm0 hblk c6 h
  have hB1 : Below w.heap.size w (W.alloc (.cells #[] 101)).drew := Below.drew (Below.then hB0 ((Below.refl _ W).alloc (Nat.le_refl _) _))
  go_region
  all_goals
    cases q
    · go_wp2_with fail
      go_ret
      exact ⟨by simp, hB1⟩
    · go_wp2_with fail
      go_ret
      exact ⟨by simp, hB1⟩
end Go.Proofs.YtfjbmenakcnadaaDoor
