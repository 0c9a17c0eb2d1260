/- What is proved: GluePastes answers true, in whatever memory: given the contracts of awake and of Paste (at the trial seat; put the real ones in their place). -/
import Derived.Test.YtlkcmegjbdibcaaDoorV4
namespace Go.Proofs.YtlkcmegjbdibcaaDoor
open Go.RowKit Go.Shelf

theorem pasteV_k (a : K) (o : Option Lx.T) : ∃ (k : K) (e : Int), pasteV a o = .tuple #[kAgg k, .int .i64 e] := by
  cases o with
  | none => exact ⟨⟨0, ⟨#[]⟩, 0, 0, 0, false⟩, 70, rfl⟩
  | some x => exact ⟨⟨x.kind, ⟨x.text.toArray⟩, a.file, a.fr, a.en, a.bl⟩, 0, rfl⟩

set_option maxRecDepth 100000 in
set_option maxHeartbeats 8000000 in
theorem lpastes_of (HAW : ∀ w, Glob w → Calls Tryd.prog 8 #[] w (TruePost w))
    (HPA : ∀ (a b : K) (w : World), Glob w → a.text.size ≤ 300 → b.text.size ≤ 300 → Calls Tryd.prog 13 #[kAgg a, kAgg b] w fun e w' => e = .returned (pasteV a (oneOf (a.text.data.toList ++ b.text.data.toList))) ∧ Below w.heap.size w w')
    (a b : K) (w : World) (hG : Glob w) : Calls Tryd.prog 4 #[kAgg a, kAgg b] w (TruePost w) := by
  have HG := Lib.hid hG
  have HW := Lib.hid HAW
  clear hG HAW
  have hP1 := HPA a b
  have hP2 := fun (h : a.text.size + b.text.size ≤ 1000000000) (w : World) => rpaste_any a b w h
  obtain ⟨r, hr⟩ : ∃ r, r = pasteV a (oneOf (a.text.data.toList ++ b.text.data.toList)) := ⟨_, rfl⟩
  obtain ⟨k, er, hk⟩ := pasteV_k a (oneOf (a.text.data.toList ++ b.text.data.toList))
  rw [hk] at hP1 hP2
  have HP1 := Lib.hid hP1
  have HP2 := Lib.hid hP2
  clear hP1 hP2 hk hr HPA
  obtain ⟨ak, at_, af, afr, aen, abl⟩ := a
  obtain ⟨bk, bt, bf, bfr, ben, bbl⟩ := b
  obtain ⟨kk, kt, kf, kfr, ken, kbl⟩ := k
  dsimp only at HP1 HP2
  unfold kAgg at HP1 HP2 ⊢
  dsimp only at HP1 HP2 ⊢
  have hB00 : Below w.heap.size w ((w.alloc (.cells #[.int .i64 ak, .string at_, .int .i64 af, .int .i64 afr, .int .i64 aen, .bool abl] 26)).alloc (.cells #[.int .i64 bk, .string bt, .int .i64 bf, .int .i64 bfr, .int .i64 ben, .bool bbl] 26)) := ((Below.refl _ w).alloc (Nat.le_refl _) _).alloc (by simp) _
  have ka := heap_alloc_new w (.cells #[.int .i64 ak, .string at_, .int .i64 af, .int .i64 afr, .int .i64 aen, .bool abl] 26)
  replace ka := (Below.heap_alloc _ (.cells #[.int .i64 bk, .string bt, .int .i64 bf, .int .i64 bfr, .int .i64 ben, .bool bbl] 26) _ (lt_of_block ka)).trans ka
  have kb := heap_alloc_new (w.alloc (.cells #[.int .i64 ak, .string at_, .int .i64 af, .int .i64 afr, .int .i64 aen, .bool abl] 26)) (.cells #[.int .i64 bk, .string bt, .int .i64 bf, .int .i64 bfr, .int .i64 ben, .bool bbl] 26)
  rw [World.size_alloc] at kb
  go_enter Tryd.func4, Tryd.ntmps4
  go_wp2_with fail
  generalize (w.alloc (.cells #[.int .i64 ak, .string at_, .int .i64 af, .int .i64 afr, .int .i64 aen, .bool abl] 26)).alloc (.cells #[.int .i64 bk, .string bt, .int .i64 bf, .int .i64 bfr, .int .i64 ben, .bool bbl] 26) = V at hB00 ka kb ⊢
  refine (HW.out _ (HG.out.later hB00)).mono ?_
  rintro e w0 ⟨rfl, hB0⟩
  replace ka := (hB0.block _ (lt_of_block ka)).trans ka
  replace kb := (hB0.block _ (lt_of_block kb)).trans kb
  replace hB0 := Below.then hB00 hB0
  obtain ⟨a0, a1, a2, a3, a4, a5⟩ := box6_cells ka
  obtain ⟨b0, b1, b2, b3, b4, b5⟩ := box6_cells kb
  by_cases h1 : at_.size ≤ 300
  · have y1 : ¬ (300 : Int) < at_.size := by omega
    by_cases h2 : bt.size ≤ 300
    · have y2 : ¬ (300 : Int) < bt.size := by omega
      have H1 := Lib.hid h1
      have H2 := Lib.hid h2
      have KA := Lib.hid ka
      have KB := Lib.hid kb
      clear h1 h2 ka kb
      go_wp2_with fail
      refine (HP1.out _ (HG.out.later hB0) H1.out H2.out).mono ?_
      rintro e w1 ⟨rfl, hB1⟩
      have kA := (hB1.block _ (lt_of_block KA.out)).trans KA.out
      have kB := (hB1.block _ (lt_of_block KB.out)).trans KB.out
      replace hB1 := Below.then hB0 hB1
      have hBx := hB1.alloc hB1.size (.cells #[.int .i64 kk, .string kt, .int .i64 kf, .int .i64 kfr, .int .i64 ken, .bool kbl] 26)
      replace kA := (Below.heap_alloc w1 (.cells #[.int .i64 kk, .string kt, .int .i64 kf, .int .i64 kfr, .int .i64 ken, .bool kbl] 26) _ (lt_of_block kA)).trans kA
      replace kB := (Below.heap_alloc w1 (.cells #[.int .i64 kk, .string kt, .int .i64 kf, .int .i64 kfr, .int .i64 ken, .bool kbl] 26) _ (lt_of_block kB)).trans kB
      have k1 := heap_alloc_new w1 (.cells #[.int .i64 kk, .string kt, .int .i64 kf, .int .i64 kfr, .int .i64 ken, .bool kbl] 26)
      clear a0 a1 a2 a3 a4 a5 b0 b1 b2 b3 b4 b5
      obtain ⟨a0, a1, a2, a3, a4, a5⟩ := box6_cells kA
      obtain ⟨b0, b1, b2, b3, b4, b5⟩ := box6_cells kB
      have K1 := Lib.hid k1
      clear k1 kA kB hB0 hB1
      go_wp2_with fail
      refine (HP2.out (by have := H1.out; have := H2.out; omega) _).mono ?_
      rintro e w2 ⟨rfl, hB2⟩
      have k1 := (hB2.block _ (lt_of_block K1.out)).trans K1.out
      replace hB2 := Below.then hBx hB2
      have hB3 := hB2.alloc hB2.size (.cells #[.int .i64 kk, .string kt, .int .i64 kf, .int .i64 kfr, .int .i64 ken, .bool kbl] 26)
      replace k1 := (Below.heap_alloc w2 (.cells #[.int .i64 kk, .string kt, .int .i64 kf, .int .i64 kfr, .int .i64 ken, .bool kbl] 26) _ (lt_of_block k1)).trans k1
      have k2 := heap_alloc_new w2 (.cells #[.int .i64 kk, .string kt, .int .i64 kf, .int .i64 kfr, .int .i64 ken, .bool kbl] 26)
      clear a0 a1 a2 a3 a4 a5 b0 b1 b2 b3 b4 b5
      obtain ⟨a0, a1, a2, a3, a4, a5⟩ := box6_cells k1
      obtain ⟨b0, b1, b2, b3, b4, b5⟩ := box6_cells k2
      clear k1 k2 hB2 hBx
      go_wp2_with fail
      go_ret
      exact ⟨by simp, hB3⟩
    · have y2 : (300 : Int) < bt.size := by omega
      go_wp2_with fail
      go_ret
      exact ⟨rfl, hB0⟩
  · have y1 : (300 : Int) < at_.size := by omega
    go_wp2_with fail
    go_ret
    exact ⟨rfl, hB0⟩
end Go.Proofs.YtlkcmegjbdibcaaDoor
