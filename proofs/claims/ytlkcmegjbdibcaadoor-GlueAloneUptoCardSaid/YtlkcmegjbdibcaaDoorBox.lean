/- What is proved: a block of two cells, of a byte with its place. -/
import Derived.Test.YtlkcmegjbdibcaaDoorIter
namespace Go.Proofs.YtlkcmegjbdibcaaDoor
open Go.RowKit Go.Shelf

attribute [local go_sem] Oper.semAt_some

/-- A block of two cells, of a byte with its place. -/
def BoxedC (W : World) (B : Nat) (x : Sp.Ch) : Prop := W.heap[B]? = some (.cells #[.int .u8 x.1.toNat, .int .i64 x.2] 60 (0, 0))
theorem BoxedC.new (W : World) (x : Sp.Ch) : BoxedC (W.alloc (.cells #[.int .u8 x.1.toNat, .int .i64 x.2] 60)) W.heap.size x := World.alloc_heap_new W _
theorem BoxedC.cell0 {W : World} {B : Nat} {x : Sp.Ch} (h : BoxedC W B x) : W.cell? ⟨B, 0, none⟩ = some (.int .u8 x.1.toNat) := by simp [World.cell?, show W.heap[B]? = _ from h]
theorem BoxedC.cell1 {W : World} {B : Nat} {x : Sp.Ch} (h : BoxedC W B x) : W.cell? ⟨B, 1, none⟩ = some (.int .i64 x.2) := by simp [World.cell?, show W.heap[B]? = _ from h]
theorem BoxedC.lt {W : World} {B : Nat} {x : Sp.Ch} (h : BoxedC W B x) : B < W.heap.size := (Array.getElem?_eq_some_iff.1 h).1
theorem boxedC_own (B : Nat) (x : Sp.Ch) : Own (fun (_ : Unit) W => BoxedC W B x) := fun _ X _ _ hs hg hrow =>
  (hg.block B hs.lt (fun e' => by obtain ⟨o, ho, hc⟩ := hrow B e'.symm; rw [show X.heap[B]? = _ from hs] at ho; cases ho; cases hc)).trans hs

end Go.Proofs.YtlkcmegjbdibcaaDoor
