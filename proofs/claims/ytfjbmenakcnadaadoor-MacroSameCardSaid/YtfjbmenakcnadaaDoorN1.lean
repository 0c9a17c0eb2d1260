/- What is proved: what the law's own define and wrong tell of a text. -/
import Derived.Test.YtfjbmenakcnadaaDoorM12
import Derived.Test.YtfjbmenakcnadaaDoorLx3
namespace Go.Proofs.YtfjbmenakcnadaaDoor
namespace Mx
open Go.Lib
open Sp (Ch)
open Lx (T tk)

def wt : List K → Nat
  | [] => 0
  | t :: r => t.text.size + 1 + wt r
theorem wt_append (a b : List K) : wt (a ++ b) = wt a + wt b := by
  induction a with
  | nil => simp [wt]
  | cons t r ih => simp [wt, ih]; omega
theorem wt_mem (ts : List K) : ∀ t ∈ ts, t.text.size ≤ wt ts := by
  induction ts with
  | nil => intro t h; simp at h
  | cons x r ih =>
    intro t h
    rcases List.mem_cons.1 h with rfl | h
    · simp [wt]; omega
    · have := ih t h; simp [wt]; omega
theorem wt_len (ts : List K) : ts.length ≤ wt ts := by
  induction ts with
  | nil => simp [wt]
  | cons x r ih => simp [wt]; omega
theorem tk_wt (f : Int) : ∀ (p : Bool) (l : List Ch), wt ((tk p l).map (ofT f)) ≤ 2 * l.length := by
  refine Lx.tkInd ?_ ?_ ?_
  · intro p; simp [Lx.tk_nil, wt]
  · intro p l hb ih
    rw [Lx.tk_blank p l hb]
    rw [List.length_drop] at ih
    omega
  · intro p l hl hb ih
    have h1 := Lx.first_len l hl
    rw [Lx.tk_tok p l hl hb, List.map_cons, wt]
    rw [List.length_drop] at ih
    have hs : (ofT f (Lx.tokAt p l)).text.size ≤ (Lx.first (Lx.bytes l)).2 := by
      show (⟨(Lx.tokAt p l).text.toArray⟩ : ByteArray).size ≤ _
      rw [mk_size]
      unfold Lx.tokAt
      dsimp only
      rw [List.length_take]; omega
    omega

/-- A text's tokens, with all that they hold. -/
def ks (s : ByteArray) : List K := (tk false (Sp.left 0 s.data.toList)).map (ofT 0)
theorem ks_wt (s : ByteArray) : wt (ks s) ≤ 2 * s.size := by
  have h1 := tk_wt 0 false (Sp.left 0 s.data.toList)
  have h2 := Sp.left_le 0 s.data.toList
  rw [size_list] at h2
  unfold ks
  omega
/-- The macro of a text. -/
def df (s : ByteArray) : M × Int := defi (ks s)
end Mx
open Go.RowKit Go.Shelf Go.WideMaps

set_option maxRecDepth 100000 in
set_option maxHeartbeats 2000000 in
theorem ldef_any (s : ByteArray) (hs : s.size ≤ 10000000) (w : World) (hG : Glob w) : Calls Tryd.prog 10 #[.string s] w (DefPost w (Mx.df s)) := by
  have hwt := Mx.ks_wt s
  have hlen := Mx.wt_len (Mx.ks s)
  have hmem := Mx.wt_mem (Mx.ks s)
  have HL := Lib.hid (show (Mx.ks s).length * 56 ≤ 140737488355328 by omega)
  have HX := Lib.hid (show ∀ t ∈ Mx.ks s, t.text.size ≤ maxLen from fun t ht => by have := hmem t ht; unfold maxLen; omega)
  obtain ⟨res, hres⟩ : ∃ res, res = Mx.df s := ⟨_, rfl⟩
  rw [← hres]
  have HRES := Lib.hid hres
  have HG := Lib.hid hG
  clear hwt hlen hmem hres hG
  go_enter Tryd.func10, Tryd.ntmps10
  go_wp2_with fail
  have hk0 := heap_alloc_new w (.cells #[.string ⟨#[]⟩, .bool false, .slice none 0 0, .bool false, .slice none 0 0] 26)
  have hB0 : Below w.heap.size w (w.alloc (.cells #[.string ⟨#[]⟩, .bool false, .slice none 0 0, .bool false, .slice none 0 0] 26)) := (Below.refl _ w).alloc (Nat.le_refl _) _
  generalize w.alloc (.cells #[.string ⟨#[]⟩, .bool false, .slice none 0 0, .bool false, .slice none 0 0] 26) = W0 at hk0 hB0 ⊢
  refine (tokens_any 0 s (by omega) _ (HG.out.later hB0)).mono ?_
  rintro e W1 ⟨v, rfl, hv, hB1⟩
  have hk : Ks W1 v (Mx.ks s) := hv.ks
  replace hk0 := (hB1.block _ (lt_of_block hk0)).trans hk0
  replace hB1 := Below.then hB0 hB1
  clear hv hB0
  go_wp2_with fail
  refine (define_any v _ W1 hk HX.out HL.out).mono ?_
  rw [show Mx.defi (Mx.ks s) = res from HRES.out.symm]
  rintro e W2 ⟨mv, rfl, ⟨pv, bv, rfl, hp, hb⟩, hB2⟩
  obtain ⟨pa, pn, pc, rfl⟩ := row_slice hp
  obtain ⟨ba, bn, bc, rfl⟩ := row_slice hb
  have hlt := lt_of_block hk0
  replace hk0 := (hB2.block _ hlt).trans hk0
  have hB := Below.then hB1 hB2
  have hwl0 := lt_of_block hk0
  have r0 := (Lib.cell_of_heap hk0 0).trans rfl
  have r1 := (Lib.cell_of_heap hk0 1).trans rfl
  have r2 := (Lib.cell_of_heap hk0 2).trans rfl
  have r3 := (Lib.cell_of_heap hk0 3).trans rfl
  have r4 := (Lib.cell_of_heap hk0 4).trans rfl
  have q0 : ∀ i, W2.frozen? ⟨w.heap.size, i, none⟩ = false := fun i => by simp [World.frozen?, hk0]
  have HP := Lib.hid hp
  have HBd := Lib.hid hb
  have HK0 := Lib.hid hk0
  clear hp hb hk0 hB1 hB2 hk
  go_wp2_with fail
  have hset : ∀ W : World, W.ownsRow W1.heap.size 9 1 (.slice pa pn pc) res.1.ps.length (strCells res.1.ps) → W.ownsRow W1.heap.size 39 6 (.slice ba bn bc) res.1.body.length (ksCells res.1.body) → Below w.heap.size w W → ∀ (i : Nat) (u : Value), (W.setCell ⟨w.heap.size, i, none⟩ u).ownsRow W1.heap.size 9 1 (.slice pa pn pc) res.1.ps.length (strCells res.1.ps) ∧ (W.setCell ⟨w.heap.size, i, none⟩ u).ownsRow W1.heap.size 39 6 (.slice ba bn bc) res.1.body.length (ksCells res.1.body) ∧ Below w.heap.size w (W.setCell ⟨w.heap.size, i, none⟩ u) :=
    fun W h1 h2 h3 i u => ⟨ownsRow_setCell_below h1 hlt u, ownsRow_setCell_below h2 hlt u, h3.setCell (Nat.le_refl _) u⟩
  obtain ⟨x1, x2, x3⟩ := hset _ HP.out HBd.out hB 0 (.string res.1.name)
  obtain ⟨x1, x2, x3⟩ := hset _ x1 x2 x3 1 (.bool res.1.fn)
  obtain ⟨x1, x2, x3⟩ := hset _ x1 x2 x3 2 (.slice pa pn pc)
  obtain ⟨x1, x2, x3⟩ := hset _ x1 x2 x3 3 (.bool res.1.va)
  obtain ⟨x1, x2, x3⟩ := hset _ x1 x2 x3 4 (.slice ba bn bc)
  have hf0 : (((((W2.setCell ⟨w.heap.size, 0, none⟩ (.string res.1.name)).setCell ⟨w.heap.size, 1, none⟩ (.bool res.1.fn)).setCell ⟨w.heap.size, 2, none⟩ (.slice pa pn pc)).setCell ⟨w.heap.size, 3, none⟩ (.bool res.1.va)).setCell ⟨w.heap.size, 4, none⟩ (.slice ba bn bc)).heap[w.heap.size]? = some (.cells #[.string res.1.name, .bool res.1.fn, .slice pa pn pc, .bool res.1.va, .slice ba bn bc] 26 (0, 0)) := by
    simp [World.setCell, Array.getElem?_modify, HK0.out]
  generalize (((((W2.setCell ⟨w.heap.size, 0, none⟩ (.string res.1.name)).setCell ⟨w.heap.size, 1, none⟩ (.bool res.1.fn)).setCell ⟨w.heap.size, 2, none⟩ (.slice pa pn pc)).setCell ⟨w.heap.size, 3, none⟩ (.bool res.1.va)).setCell ⟨w.heap.size, 4, none⟩ (.slice ba bn bc)) = Wf at x1 x2 x3 hf0 ⊢
  have s0 := (Lib.cell_of_heap hf0 0).trans rfl
  have s1 := (Lib.cell_of_heap hf0 1).trans rfl
  have s2 := (Lib.cell_of_heap hf0 2).trans rfl
  have s3 := (Lib.cell_of_heap hf0 3).trans rfl
  have s4 := (Lib.cell_of_heap hf0 4).trans rfl
  refine bodyPost_ret (v := .tuple #[.agg #[.string res.1.name, .bool res.1.fn, .slice pa pn pc, .bool res.1.va, .slice ba bn bc], .int .i64 res.2]) (by simp [results, Tryd.results10, go_sem, s0, s1, s2, s3, s4]) rfl ?_
  exact ⟨_, rfl, ⟨_, _, rfl, x1.mono (by omega), x2.mono (by omega)⟩, x3⟩

set_option maxRecDepth 100000 in
set_option maxHeartbeats 2000000 in
theorem lwrong_any (s : ByteArray) (hs : s.size ≤ 10000000) (w : World) (hG : Glob w) : Calls Tryd.prog 22 #[.string s] w fun e w' => e = .returned (.int .i64 (Mx.df s).2) ∧ Below w.heap.size w w' := by
  go_enter Tryd.func22, Tryd.ntmps22
  go_wp2_with fail
  refine (ldef_any s hs w hG).mono ?_
  rintro e W ⟨mv, rfl, ⟨pv, bv, rfl, hp, hb⟩, hB⟩
  obtain ⟨pa, pn, pc, rfl⟩ := row_slice hp
  obtain ⟨ba, bn, bc, rfl⟩ := row_slice hb
  clear hp hb
  go_wp2_with fail
  go_ret
  exact ⟨rfl, hB.alloc hB.size _⟩
end Go.Proofs.YtfjbmenakcnadaaDoor
