/- What is proved: GlueTexts answers true, in whatever memory: given the contracts of awake, Text and String (at the trial seat; put the real ones in their place). -/
import Derived.Test.YtlkcmegjbdibcaaDoorV3
import Derived.Deep.RegionHeld3
namespace Go.Proofs.YtlkcmegjbdibcaaDoor
open Go.RowKit Go.Shelf

set_option maxRecDepth 100000 in
set_option maxHeartbeats 8000000 in
theorem ltexts_of (HAW : ∀ w, Glob w → Calls Tryd.prog 8 #[] w (TruePost w))
    (l : List K)
    (HTX : ∀ (v : Value) (w : World), Glob w → Ks w v l → Calls Tryd.prog 9 #[v] w fun e w' => e = .returned (.string ⟨(Gl.txt false false false l).toArray⟩) ∧ Below w.heap.size w w')
    (HST : ∀ (v : Value) (w : World), Glob w → Ks w v l → Calls Tryd.prog 10 #[v] w fun e w' => e = .returned (strTok (34 :: (Gl.txt true false false l ++ [34]))) ∧ Below w.heap.size w w')
    (v : Value) (w : World) (hG : Glob w) (hv : Ks w v l) (hl : l.length ≤ 1000000000) (hx : ∀ t ∈ l, t.text.size ≤ 400000000)
    (ht : (Gl.txt false false false l).length ≤ 1000000000) (hq : (Gl.txt true false false l).length ≤ 1000000000) : Calls Tryd.prog 3 #[v] w (TruePost w) := by
  have HG := Lib.hid hG
  have HW := Lib.hid HAW
  have HV := Lib.hid hv
  obtain ⟨va, vc, rfl, -⟩ := id hv
  have hT1 := HTX (.slice va l.length vc)
  have hS1 := HST (.slice va l.length vc)
  have hT2 := fun (w : World) (h : Ks w (.slice va l.length vc) l) => rtext_any (.slice va l.length vc) false l w h hl hx ht
  have hS2 := fun (w : World) (h : Ks w (.slice va l.length vc) l) => rstring_any (.slice va l.length vc) l w h hl hx hq
  obtain ⟨A, hA⟩ : ∃ A : ByteArray, A = ⟨(Gl.txt false false false l).toArray⟩ := ⟨_, rfl⟩
  obtain ⟨B, hB⟩ : ∃ B : ByteArray, B = ⟨(34 :: (Gl.txt true false false l ++ [34])).toArray⟩ := ⟨_, rfl⟩
  unfold strTok at hS1 hS2
  rw [← hA] at hT1 hT2
  rw [← hB] at hS1 hS2
  have T1 := Lib.hid hT1
  have T2 := Lib.hid hT2
  have S1 := Lib.hid hS1
  have S2 := Lib.hid hS2
  clear hG HAW hv hT1 hT2 hS1 hS2 hA hB ht hq hx hl HTX HST
  go_enter Tryd.func3, Tryd.ntmps3
  go_wp2_with fail
  refine (HW.out _ HG.out).mono ?_
  rintro e w0 ⟨rfl, hB0⟩
  go_wp2_with fail
  refine (T1.out _ (HG.out.later hB0) (HV.out.below hB0)).mono ?_
  rintro e w1 ⟨rfl, hB1⟩
  replace hB1 := Below.then hB0 hB1
  clear hB0
  go_wp2_with fail
  refine (S1.out _ (HG.out.later hB1) (HV.out.below hB1)).mono ?_
  rintro e w2 ⟨rfl, hB2⟩
  replace hB2 := Below.then hB1 hB2
  have hB3 := hB2.alloc hB2.size (.cells #[.int .i64 4, .string B, .int .i64 0, .int .i64 0, .int .i64 0, .bool false] 26)
  have k1 := heap_alloc_new w2 (.cells #[.int .i64 4, .string B, .int .i64 0, .int .i64 0, .int .i64 0, .bool false] 26)
  have hV3 := HV.out.below hB3
  go_wp2_with fail
  generalize w2.alloc (.cells #[.int .i64 4, .string B, .int .i64 0, .int .i64 0, .int .i64 0, .bool false] 26) = U at hB3 hV3 k1 ⊢
  obtain ⟨x0, x1, x2, x3, x4, x5⟩ := box6_cells k1
  have V3 := Lib.hid hV3
  have HB3 := Lib.hid hB3
  clear hB1 hB2 hV3 hB3 k1
  have hW : Below U.heap.size U U := Below.refl _ U
  go_region_held3 (fun w' => w'.cell? ⟨w2.heap.size, 0, none⟩ = some (.int .i64 4) ∧ w'.cell? ⟨w2.heap.size, 1, none⟩ = some (.string B) ∧ w'.cell? ⟨w2.heap.size, 2, none⟩ = some (.int .i64 0) ∧ w'.cell? ⟨w2.heap.size, 3, none⟩ = some (.int .i64 0) ∧ w'.cell? ⟨w2.heap.size, 4, none⟩ = some (.int .i64 0) ∧ w'.cell? ⟨w2.heap.size, 5, none⟩ = some (.bool false) ∧ Below U.heap.size U w')
    (first
      | exact ⟨x0, x1, x2, x3, x4, x5, hW.drew⟩
      | (refine ⟨?_, ?_, ?_, ?_, ?_, ?_, ?_⟩ <;> go_keep)
      | (go_split_ands
         refine ⟨?_, ?_, ?_, ?_, ?_, ?_, ?_⟩
         · exact below_cof hBc (by assumption)
         · exact below_cof hBc (by assumption)
         · exact below_cof hBc (by assumption)
         · exact below_cof hBc (by assumption)
         · exact below_cof hBc (by assumption)
         · exact below_cof hBc (by assumption)
         · exact Below.trans (by assumption) (hBc.mono (Below.size (by assumption)))))
    (first
      | (go_at_call 11; go_split_ands; refine (T2.out _ (V3.out.below (by assumption))).mono ?_; rintro e wc ⟨rfl, hBc⟩)
      | (go_at_call 12; go_split_ands; refine (S2.out _ (V3.out.below (by assumption))).mono ?_; rintro e wc ⟨rfl, hBc⟩))
  go_split_ands
  have hBe : Below U.heap.size U wc := by assumption
  go_wp2_with fail
  go_ret
  exact ⟨rfl, Below.then HB3.out hBe⟩
end Go.Proofs.YtlkcmegjbdibcaaDoor
