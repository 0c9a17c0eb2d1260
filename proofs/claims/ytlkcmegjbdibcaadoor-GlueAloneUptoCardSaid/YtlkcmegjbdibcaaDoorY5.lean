/- What is proved: plain facts: how long a text's tokens are. -/
import Derived.Test.YtlkcmegjbdibcaaDoorY4
namespace Go.Proofs.YtlkcmegjbdibcaaDoor
namespace Gl
open Lx (tb first blankLen)

theorem tb_short : ∀ (p : Bool) (u : List UInt8), ∀ t ∈ tb p u, t.2.1.length ≤ u.length := by
  refine Lx.tbInd ?_ ?_ ?_
  · intro p t ht; simp [Lx.tb_nil] at ht
  · intro p u hb ih t ht
    rw [Lx.tb_blank p u hb] at ht
    have := ih t ht
    rw [List.length_drop] at this
    omega
  · intro p u hu hb ih t ht
    rw [Lx.tb_tok p u hu hb] at ht
    rcases List.mem_cons.1 ht with rfl | ht
    · dsimp only
      rw [List.length_take]
      omega
    · have := ih t ht
      rw [List.length_drop] at this
      omega
/-- A text's tokens. -/
def toksOf (s : List UInt8) : List Lx.T := Lx.tk false (Sp.left 0 s)
theorem toksOf_len (s : List UInt8) : (toksOf s).length ≤ s.length := Nat.le_trans (Lx.tk_length _ _) (Sp.left_le 0 s)
theorem toksOf_short (s : List UInt8) (t : Lx.T) (ht : t ∈ toksOf s) : t.text.length ≤ s.length := by
  have hm : Lx.al t ∈ tb false (Lx.bytes (Sp.left 0 s)) := by rw [← Lx.tk_al]; exact List.mem_map_of_mem ht
  have := tb_short false _ _ hm
  have h2 := Sp.left_le 0 s
  rw [show (Lx.bytes (Sp.left 0 s)).length = (Sp.left 0 s).length from List.length_map _] at this
  simp only [Lx.al] at this
  omega
theorem toksOf_txt (s : List UInt8) (q : Bool) : (txt q false false ((toksOf s).map (ofT 0))).length ≤ s.length * (2 * s.length + 1) := by
  have h := txt_len q s.length ((toksOf s).map (ofT 0)) false false (fun t ht => by
    obtain ⟨x, hx, rfl⟩ := List.mem_map.1 ht
    have := toksOf_short s x hx
    show (ByteArray.mk x.text.toArray).size ≤ _
    exact this)
  rw [List.length_map] at h
  exact Nat.le_trans h (Nat.mul_le_mul_right _ (toksOf_len s))
end Gl
end Go.Proofs.YtlkcmegjbdibcaaDoor
