/- What is proved: what the document's own String and Paste tell. -/
import Derived.Test.YtlkcmegjbdibcaaDoorV2
import Derived.Test.YtlkcmegjbdibcaaDoorO2
namespace Go.Proofs.YtlkcmegjbdibcaaDoor
open Go.RowKit Go.Shelf

def strTok (s : List UInt8) : Value := .agg #[.int .i64 4, .string ⟨s.toArray⟩, .int .i64 0, .int .i64 0, .int .i64 0, .bool false]

set_option maxRecDepth 100000 in
set_option maxHeartbeats 4000000 in
theorem rstring_any (v : Value) (l : List K) (w : World) (hv : Ks w v l) (hl : l.length ≤ 1000000000) (hx : ∀ t ∈ l, t.text.size ≤ 400000000) (ht : (Gl.txt true false false l).length ≤ 1000000000) :
    Calls Tryd.prog 12 #[v] w fun e w' => e = .returned (strTok (34 :: (Gl.txt true false false l ++ [34]))) ∧ Below w.heap.size w w' := by
  obtain ⟨X, hX⟩ : ∃ X, X = Gl.txt true false false l := ⟨_, rfl⟩
  have HV := Lib.hid hv
  have HLL := Lib.hid hl
  have HX := Lib.hid hx
  have HT := Lib.hid ht
  have had1 : ∀ W, (Op.stringOp .add ⟨#[34]⟩ ⟨X.toArray⟩).run Tryd.prog W = .ok (.string ⟨(34 :: X).toArray⟩) W := fun W => add_run [34] X (by rw [hX]; simp; omega) W
  have had2 : ∀ W, (Op.stringOp .add ⟨(34 :: X).toArray⟩ ⟨#[34]⟩).run Tryd.prog W = .ok (.string ⟨(34 :: (X ++ [34])).toArray⟩) W := fun W => add_run (34 :: X) [34] (by rw [hX]; simp; omega) W
  rw [← hX]
  have HXX := Lib.hid hX
  clear hv hl hx ht hX
  have hcv : (convert 45 9 (.slice (some ⟨w.heap.size + 1, 0, none⟩) 1 1)).run Tryd.prog ((w.alloc (.cells #[.int .i64 0, .string ⟨#[]⟩, .int .i64 0, .int .i64 0, .int .i64 0, .bool false] 26)).alloc (.cells #[.int .u8 34] 5)) = .ok (.string ⟨#[34]⟩) ((w.alloc (.cells #[.int .i64 0, .string ⟨#[]⟩, .int .i64 0, .int .i64 0, .int .i64 0, .bool false] 26)).alloc (.cells #[.int .u8 34] 5)) := by
    have := conv_one 34 (w.alloc (.cells #[.int .i64 0, .string ⟨#[]⟩, .int .i64 0, .int .i64 0, .int .i64 0, .bool false] 26))
    rwa [World.size_alloc] at this
  have hB0 : Below w.heap.size w ((w.alloc (.cells #[.int .i64 0, .string ⟨#[]⟩, .int .i64 0, .int .i64 0, .int .i64 0, .bool false] 26)).alloc (.cells #[.int .u8 34] 5)) := ((Below.refl _ w).alloc (Nat.le_refl _) _).alloc (by simp) _
  have hbox := heap_alloc_new w (.cells #[.int .i64 0, .string ⟨#[]⟩, .int .i64 0, .int .i64 0, .int .i64 0, .bool false] 26)
  replace hbox := (Below.heap_alloc _ (.cells #[.int .u8 34] 5) _ (lt_of_block hbox)).trans hbox
  go_enter Tryd.func12, Tryd.ntmps12
  go_wp2_with fail
  generalize (w.alloc (.cells #[.int .i64 0, .string ⟨#[]⟩, .int .i64 0, .int .i64 0, .int .i64 0, .bool false] 26)).alloc (.cells #[.int .u8 34] 5) = W0 at hB0 hbox ⊢
  refine (rtext_any v true l _ (HV.out.below hB0) HLL.out HX.out HT.out).mono ?_
  rw [← HXX.out]
  rintro e W1 ⟨rfl, hB1⟩
  have hb1 := (hB1.block _ (lt_of_block hbox)).trans hbox
  have hB := Below.then hB0 hB1
  have hlt := lt_of_block hb1
  obtain ⟨x0, x1, x2, x3, x4, x5⟩ := box6_cells hb1
  have q0 : ∀ i, W1.frozen? ⟨w.heap.size, i, none⟩ = false := fun i => by simp [World.frozen?, hb1]
  have HB1 := Lib.hid hb1
  have HBB := Lib.hid hB
  clear hB1 hb1 hB hB0 hbox
  go_wp2_with fail
  have hset : ((((((W1.setCell ⟨w.heap.size, 0, none⟩ (.int .i64 4)).setCell ⟨w.heap.size, 1, none⟩ (.string ⟨(34 :: (X ++ [34])).toArray⟩)).setCell ⟨w.heap.size, 2, none⟩ (.int .i64 0)).setCell ⟨w.heap.size, 3, none⟩ (.int .i64 0)).setCell ⟨w.heap.size, 4, none⟩ (.int .i64 0)).setCell ⟨w.heap.size, 5, none⟩ (.bool false)).heap[w.heap.size]? = some (.cells #[.int .i64 4, .string ⟨(34 :: (X ++ [34])).toArray⟩, .int .i64 0, .int .i64 0, .int .i64 0, .bool false] 26 (0, 0)) := by
    simp [World.setCell, Array.getElem?_modify, HB1.out]
  obtain ⟨s0, s1, s2, s3, s4, s5⟩ := box6_cells hset
  refine bodyPost_ret (v := strTok (34 :: (X ++ [34]))) (by simp [results, Tryd.results12, go_sem, strTok, s0, s1, s2, s3, s4, s5]) rfl ?_
  exact ⟨rfl, (((((HBB.out.setCell (Nat.le_refl _) _).setCell (Nat.le_refl _) _).setCell (Nat.le_refl _) _).setCell (Nat.le_refl _) _).setCell (Nat.le_refl _) _).setCell (Nat.le_refl _) _⟩
end Go.Proofs.YtlkcmegjbdibcaaDoor
