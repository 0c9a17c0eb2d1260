/- What is proved: GlueQuotes answers true, in whatever memory: given the contracts of awake and of Unquote (at the trial seat; put the real ones in their place). -/
import Derived.Test.YtlkcmegjbdibcaaDoorV5
namespace Go.Proofs.YtlkcmegjbdibcaaDoor
open Go.RowKit Go.Shelf

set_option maxRecDepth 100000 in
set_option maxHeartbeats 4000000 in
theorem lquotes_of (HAW : ∀ w, Glob w → Calls Tryd.prog 8 #[] w (TruePost w))
    (HUN : ∀ (s : ByteArray) (w : World), Glob w → s.size ≤ 1000 → Calls Tryd.prog 15 #[.string s] w fun e w' => e = .returned (unqOut (Gl.unquote s.data.toList)) ∧ Below w.heap.size w w')
    (s : ByteArray) (w : World) (hG : Glob w) : Calls Tryd.prog 5 #[.string s] w (TruePost w) := by
  have HG := Lib.hid hG
  have HW := Lib.hid HAW
  have HU := Lib.hid HUN
  clear hG HAW HUN
  by_cases h1 : s.size ≤ 1000
  · have y1 : ¬ (1000 : Int) < s.size := by omega
    have HS := Lib.hid h1
    clear h1
    obtain ⟨o, ho⟩ : ∃ o, o = Gl.unquote s.data.toList := ⟨_, rfl⟩
    have hU1 := HU.out s
    have hU2 := fun w => runquote_any s w (by have := HS.out; omega)
    rw [← ho] at hU1 hU2
    have HU1 := Lib.hid hU1
    have HU2 := Lib.hid hU2
    clear hU1 hU2 ho
    unfold unqOut at HU1 HU2
    go_enter Tryd.func5, Tryd.ntmps5
    go_wp2_with fail
    refine (HW.out _ HG.out).mono ?_
    rintro e w0 ⟨rfl, hB0⟩
    go_wp2_with fail
    refine (HU1.out _ (HG.out.later hB0) HS.out).mono ?_
    rintro e w1 ⟨rfl, hB1⟩
    replace hB1 := Below.then hB0 hB1
    go_wp2_with fail
    refine (HU2.out _).mono ?_
    rintro e w2 ⟨rfl, rfl⟩
    go_wp2_with fail
    go_ret
    exact ⟨by simp, hB1⟩
  · have y1 : (1000 : Int) < s.size := by omega
    go_enter Tryd.func5, Tryd.ntmps5
    go_wp2_with fail
    refine (HW.out _ HG.out).mono ?_
    rintro e w0 ⟨rfl, hB0⟩
    go_wp2_with fail
    go_ret
    exact ⟨rfl, hB0⟩
end Go.Proofs.YtlkcmegjbdibcaaDoor
