/- What is proved: a body, statement by statement: what stands behind so many statements; how one is walked alone. -/
import Derived.Test.YtlkcmegjbdibcaaDoorEqt
namespace Go.Proofs.YtlkcmegjbdibcaaDoor
open Go.RowKit Go.Shelf

/-- What stands behind so many statements. -/
def secs : Nat → Code → Code
  | 0, c => c
  | n + 1, .seq _ b => secs n b
  | _, c => c
def fstC : Code → Code
  | .seq a _ => a
  | c => c
def isSeq : Code → Bool
  | .seq _ _ => true
  | _ => false
theorem secs_succ : ∀ (n : Nat) (c : Code), isSeq (secs n c) = true → secs n c = .seq (fstC (secs n c)) (secs (n + 1) c)
  | 0, .seq a b, _ => rfl
  | n + 1, .seq a b, h => secs_succ n b h
  | n + 1, .skip, h => by simp [secs, isSeq] at h
  | n + 1, .region _ _ _, h => by simp [secs, isSeq] at h
  | n + 1, .cond _ _ _, h => by simp [secs, isSeq] at h
  | n + 1, .loop _, h => by simp [secs, isSeq] at h
  | n + 1, .block _ _, h => by simp [secs, isSeq] at h
  | n + 1, .scope _, h => by simp [secs, isSeq] at h
  | n + 1, .label _, h => by simp [secs, isSeq] at h
  | n + 1, .exit _, h => by simp [secs, isSeq] at h
  | n + 1, .goto _, h => by simp [secs, isSeq] at h
  | n + 1, .ret, h => by simp [secs, isSeq] at h
/-- A statement, and what stands behind it. -/
theorem wp_sec {P : Program} {Q : Exit → Act → World → Prop} {a : Act} {w : World} (n : Nat) (c : Code) (hs : isSeq (secs n c) = true)
    (h : (fstC (secs n c)).wp P (Exit.then (fun a w => (secs (n + 1) c).wp P Q a w) Q) a w) : (secs n c).wp P Q a w := by
  rw [secs_succ n c hs]
  exact wp_seq h

theorem lit_beq (t : ByteArray) (l : List UInt8) : (t.toList == l) = decide (t = ⟨l.toArray⟩) := by
  rw [← ba_beq, Lib.toList_data ⟨l.toArray⟩]
theorem lit_no {t : ByteArray} {l : List UInt8} (h : ¬ t = ⟨l.toArray⟩) : (t.toList == l) = false := by rw [lit_beq]; exact decide_eq_false h
theorem lit_yes {t : ByteArray} {l : List UInt8} (h : t = ⟨l.toArray⟩) : (t.toList == l) = true := by rw [lit_beq]; exact decide_eq_true h
theorem lit_ne {a b : ByteArray} (h : ¬ a = b) : (a.toList == b.toList) = false := by rw [ba_beq]; exact decide_eq_false h
theorem add_ba (a b c : ByteArray) (h : a.size + b.size ≤ 100000000000) (hc : c.data.toList = a.data.toList ++ b.data.toList) (w : World) : (Op.stringOp .add a b).run Tryd.prog w = .ok (.string c) w := by
  have e : c = a ++ b := by
    rw [← Go.Lib.mk_data a, ← Go.Lib.mk_data b, ByteArray.mk_append_mk, ← hc, Go.Lib.mk_data]
  rw [run_string_add_sum w _ _ (by omega), e]
theorem Ks.toks {W : World} {v : Value} {f : Int} {ts : List Lx.T} (h : Ks W v (ts.map (ofT f))) : Toks W v f ts := by
  obtain ⟨ad, cap, rfl, h1, h2, h3⟩ := h
  rw [List.length_map] at h1
  refine ⟨ad, cap, by rw [List.length_map], h1, h2, fun i t ht => ?_⟩
  exact h3 i (ofT f t) (by rw [List.getElem?_map, ht]; rfl)
theorem below_cof {W W' : World} {a : Addr} {v : Value} (h : Below W.heap.size W W') (hc : W.cell? a = some v) : W'.cell? a = some v := (h.cell (lt_of_cell hc)).trans hc
theorem box6_cells {W : World} {b t : Nat} {a0 a1 a2 a3 a4 a5 : Value} (h : W.heap[b]? = some (.cells #[a0, a1, a2, a3, a4, a5] t (0, 0))) :
    W.cell? ⟨b, 0, none⟩ = some a0 ∧ W.cell? ⟨b, 1, none⟩ = some a1 ∧ W.cell? ⟨b, 2, none⟩ = some a2 ∧ W.cell? ⟨b, 3, none⟩ = some a3 ∧ W.cell? ⟨b, 4, none⟩ = some a4 ∧ W.cell? ⟨b, 5, none⟩ = some a5 :=
  ⟨(Lib.cell_of_heap h 0).trans rfl, (Lib.cell_of_heap h 1).trans rfl, (Lib.cell_of_heap h 2).trans rfl, (Lib.cell_of_heap h 3).trans rfl, (Lib.cell_of_heap h 4).trans rfl, (Lib.cell_of_heap h 5).trans rfl⟩
end Go.Proofs.YtlkcmegjbdibcaaDoor
