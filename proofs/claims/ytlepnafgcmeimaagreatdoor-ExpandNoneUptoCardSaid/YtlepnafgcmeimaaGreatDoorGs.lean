/- What is proved: the chapter's examples are as it says (awake), in whatever memory. (and what stands with it) -/
import Derived.Test.YtlepnafgcmeimaaGreatDoorGr
import Derived.Test.YtlepnafgcmeimaaGreatDoorGj
import Derived.Test.YtlepnafgcmeimaaGreatDoorGk
import Derived.BigQuiet
import Derived.Deep.QuietTactic
import Derived.Test.YtlepnafgcmeimaaGreatDoorGd
import Derived.Laws.OwnMore
import Derived.Tactics
import Derived.Deep.AppendLies

/- What is proved: the chapter's examples are as it says (awake), in whatever memory. -/
namespace Go.Proofs.YtlepnafgcmeimaaGreatDoor
open Go.RowKit Go.Shelf

theorem ex8_a : Ep.saysT [⟨#[88, 32, 89]⟩, ⟨#[89, 32, 88, 32, 43, 32, 49]⟩] ⟨#[88]⟩ [88, 32, 43, 32, 49] = true := by kernel_rfl
theorem ex8_b : Ep.saysT [⟨#[70, 40, 97, 41, 32, 97, 32, 42, 32, 97]⟩] ⟨#[70, 40, 49, 32, 43, 32, 50, 41]⟩ [49, 32, 43, 32, 50, 32, 42, 32, 49, 32, 43, 32, 50] = true := by kernel_rfl
theorem ex8_c : Ep.saysT [⟨#[70, 40, 97, 41, 32, 97, 32, 42, 32, 97]⟩] ⟨#[70]⟩ [70] = true := by kernel_rfl
theorem ex8_d : Ep.saysT [⟨#[70, 40, 97, 41, 32, 97, 32, 42, 32, 97]⟩] ⟨#[70, 32, 40, 41]⟩ [42] = true := by kernel_rfl
theorem ex8_g : Ep.saysT [⟨#[67, 40, 97, 44, 32, 98, 41, 32, 97, 35, 35, 98]⟩, ⟨#[65, 66, 32, 55]⟩] ⟨#[67, 40, 65, 44, 32, 66, 41]⟩ [55] = true := by kernel_rfl
theorem ex8_h : Ep.saysT [⟨#[67, 40, 97, 44, 32, 98, 41, 32, 97, 35, 35, 98]⟩, ⟨#[65, 66, 32, 55]⟩] ⟨#[67, 40, 65, 44, 41]⟩ [65] = true := by kernel_rfl
theorem ex8_i : Ep.saysT [⟨#[83, 40, 46, 46, 46, 41, 32, 35, 95, 95, 86, 65, 95, 65, 82, 71, 83, 95, 95]⟩] ⟨#[83, 40, 49, 44, 32, 32, 34, 120, 34, 41]⟩ [34, 49, 44, 32, 92, 34, 120, 92, 34, 34] = true := by kernel_rfl
theorem ex8_j : Ep.saysE [⟨#[70, 40, 97, 41, 32, 97]⟩] ⟨#[70, 40, 49, 44, 32, 50, 41]⟩ 81 = true := by kernel_rfl
theorem ex8_k : Ep.saysE [⟨#[70, 40, 97, 41, 32, 97]⟩] ⟨#[70, 40, 49]⟩ 80 = true := by kernel_rfl
theorem ex8_l : Ep.saysT [⟨#[71, 32, 70]⟩, ⟨#[70, 40, 97, 41, 32, 91, 97, 93]⟩] ⟨#[71, 32, 40, 49, 41]⟩ [91, 49, 93] = true := by kernel_rfl

theorem sts_box1 {W : World} {B : Nat} {a : ByteArray} {t : TypeId} (h : W.heap[B]? = some (.cells #[.string a] t (0, 0))) : Sts W (.slice (some ⟨B, 0, none⟩) 1 1) [a] := by
  refine ⟨_, _, rfl, Nat.le_refl _, by decide, fun i s hs => ?_⟩
  match i, hs with
  | 0, hs => simp only [List.getElem?_cons_zero, Option.some.injEq] at hs; subst hs; exact ⟨B, 0, rfl, (Lib.cell_of_heap h 0).trans rfl⟩
  | _ + 1, hs => simp at hs
theorem sts_box2 {W : World} {B : Nat} {a b : ByteArray} {t : TypeId} (h : W.heap[B]? = some (.cells #[.string a, .string b] t (0, 0))) : Sts W (.slice (some ⟨B, 0, none⟩) 2 2) [a, b] := by
  refine ⟨_, _, rfl, Nat.le_refl _, by decide, fun i s hs => ?_⟩
  match i, hs with
  | 0, hs => simp only [List.getElem?_cons_zero, Option.some.injEq] at hs; subst hs; exact ⟨B, 0, rfl, (Lib.cell_of_heap h 0).trans rfl⟩
  | 1, hs => simp only [List.getElem?_cons_succ, List.getElem?_cons_zero, Option.some.injEq] at hs; subst hs; exact ⟨B, 0, rfl, (Lib.cell_of_heap h 1).trans rfl⟩
  | _ + 2, hs => simp at hs
noncomputable def awBody8 : Code := Tryz.f7.body.getD .skip

set_option maxRecDepth 100000 in
set_option maxHeartbeats 4000000 in
theorem aw8_13 (w W : World) (_ : Glob w) (hB : Below w.heap.size w W) (c0 c2 c6 c13 c14 c15 c16 c17 c18 c19 c20 c21 c22 c23 c24 c25 c26 c27 c28 c29 c30 c31 c32 c33 c34 c35 c36 c37 c38 c39 c40 c41 c42 c43 c44 c45 c46 c47 c48 c49 c50 c51 c52 c53 c54 c55 c56 c57 c58 c59 c60 c61 c62 c63 c64 c65 c66 c67 c68 c69 c70 c71 c72 : Value) :
    Code.wp Tryz.prog (secs 13 awBody8) (bodyPost Tryz.prog Tryz.f7 (TruePost w)) ⟨#[c0, .string ⟨#[88, 32, 43, 32, 49]⟩, c2, .string ⟨#[49, 32, 43, 32, 50, 32, 42, 32, 49, 32, 43, 32, 50]⟩, .string ⟨#[70]⟩, .string ⟨#[42]⟩, c6, .string ⟨#[55]⟩, .string ⟨#[65]⟩, .string ⟨#[34, 49, 44, 32, 92, 34, 120, 92, 34, 34]⟩, .string ⟨#[59]⟩, .string ⟨#[58]⟩, .string ⟨#[91, 49, 93]⟩, c13, c14, c15, c16, c17, c18, c19, c20, c21, c22, c23, c24, c25, c26, c27, c28, c29, c30, c31, c32, c33, c34, c35, c36, c37, c38, c39, c40, c41, c42, c43, c44, c45, c46, c47, c48, c49, c50, c51, c52, c53, c54, c55, c56, c57, c58, c59, c60, c61, c62, c63, c64, c65, c66, c67, c68, c69, c70, c71, c72], []⟩ W := by
  have HB := Lib.hid hB
  clear hB
  refine wp_sec 13 awBody8 rfl ?_
  conv => arg 2; whnf
  go_wp2_with fail
  conv => arg 2; whnf
  go_wp2_with fail
  go_ret
  exact ⟨rfl, HB.out⟩

set_option maxRecDepth 100000 in
set_option maxHeartbeats 4000000 in
theorem aw8_12 (w W : World) (hG : Glob w) (hB : Below w.heap.size w W) (c0 c2 c6 c12 c13 c14 c15 c16 c17 c18 c19 c20 c21 c22 c23 c24 c25 c26 c27 c28 c29 c30 c31 c32 c33 c34 c35 c36 c37 c38 c39 c40 c41 c42 c43 c44 c45 c46 c47 c48 c49 c50 c51 c52 c53 c54 c55 c56 c57 c58 c59 c60 c61 c62 c63 c64 c65 c66 c67 c68 c69 c70 c71 c72 : Value) :
    Code.wp Tryz.prog (secs 12 awBody8) (bodyPost Tryz.prog Tryz.f7 (TruePost w)) ⟨#[c0, .string ⟨#[88, 32, 43, 32, 49]⟩, c2, .string ⟨#[49, 32, 43, 32, 50, 32, 42, 32, 49, 32, 43, 32, 50]⟩, .string ⟨#[70]⟩, .string ⟨#[42]⟩, c6, .string ⟨#[55]⟩, .string ⟨#[65]⟩, .string ⟨#[34, 49, 44, 32, 92, 34, 120, 92, 34, 34]⟩, .string ⟨#[59]⟩, .string ⟨#[58]⟩, c12, c13, c14, c15, c16, c17, c18, c19, c20, c21, c22, c23, c24, c25, c26, c27, c28, c29, c30, c31, c32, c33, c34, c35, c36, c37, c38, c39, c40, c41, c42, c43, c44, c45, c46, c47, c48, c49, c50, c51, c52, c53, c54, c55, c56, c57, c58, c59, c60, c61, c62, c63, c64, c65, c66, c67, c68, c69, c70, c71, c72], []⟩ W := by
  have HB := Lib.hid hB
  have HG := Lib.hid hG
  have hal := heap_alloc_new W (.cells #[.string ⟨#[71, 32, 70]⟩, .string ⟨#[70, 40, 97, 41, 32, 91, 97, 93]⟩] 9)
  have hB1 := hB.alloc hB.size (.cells #[.string ⟨#[71, 32, 70]⟩, .string ⟨#[70, 40, 97, 41, 32, 91, 97, 93]⟩] 9)
  have KK := Lib.hid (lcomes_text (.slice (some ⟨W.heap.size, 0, none⟩) 2 2) [⟨#[71, 32, 70]⟩, ⟨#[70, 40, 97, 41, 32, 91, 97, 93]⟩] ⟨#[71, 32, 40, 49, 41]⟩ [91, 49, 93] (W.alloc (.cells #[.string ⟨#[71, 32, 70]⟩, .string ⟨#[70, 40, 97, 41, 32, 91, 97, 93]⟩] 9)) (hG.later hB1) (sts_box2 hal) (by decide) (by decide) (by decide) (by decide) ex8_l)
  have HB1 := Lib.hid hB1
  clear hal hB1
  clear hB
  refine wp_sec 12 awBody8 rfl ?_
  conv => arg 2; whnf
  go_wp2_with fail
  refine KK.out.mono ?_
  rintro e w2 ⟨rfl, hB2⟩
  have HB2 := Lib.hid (Below.then HB1.out hB2)
  clear hB2
  go_wp2_with fail
  exact aw8_13 w w2 HG.out HB2.out _ _ _ _ _ _ _ _ _ _ _ _ _ _ _ _ _ _ _ _ _ _ _ _ _ _ _ _ _ _ _ _ _ _ _ _ _ _ _ _ _ _ _ _ _ _ _ _ _ _ _ _ _ _ _ _ _ _ _ _ _ _ _

set_option maxRecDepth 100000 in
set_option maxHeartbeats 4000000 in
theorem aw8_11 (w W : World) (hG : Glob w) (hB : Below w.heap.size w W) (c0 c2 c6 c11 c12 c13 c14 c15 c16 c17 c18 c19 c20 c21 c22 c23 c24 c25 c26 c27 c28 c29 c30 c31 c32 c33 c34 c35 c36 c37 c38 c39 c40 c41 c42 c43 c44 c45 c46 c47 c48 c49 c50 c51 c52 c53 c54 c55 c56 c57 c58 c59 c60 c61 c62 c63 c64 c65 c66 c67 c68 c69 c70 c71 c72 : Value) :
    Code.wp Tryz.prog (secs 11 awBody8) (bodyPost Tryz.prog Tryz.f7 (TruePost w)) ⟨#[c0, .string ⟨#[88, 32, 43, 32, 49]⟩, c2, .string ⟨#[49, 32, 43, 32, 50, 32, 42, 32, 49, 32, 43, 32, 50]⟩, .string ⟨#[70]⟩, .string ⟨#[42]⟩, c6, .string ⟨#[55]⟩, .string ⟨#[65]⟩, .string ⟨#[34, 49, 44, 32, 92, 34, 120, 92, 34, 34]⟩, .string ⟨#[59]⟩, c11, c12, c13, c14, c15, c16, c17, c18, c19, c20, c21, c22, c23, c24, c25, c26, c27, c28, c29, c30, c31, c32, c33, c34, c35, c36, c37, c38, c39, c40, c41, c42, c43, c44, c45, c46, c47, c48, c49, c50, c51, c52, c53, c54, c55, c56, c57, c58, c59, c60, c61, c62, c63, c64, c65, c66, c67, c68, c69, c70, c71, c72], []⟩ W := by
  have HB := Lib.hid hB
  have HG := Lib.hid hG
  have hal := heap_alloc_new W (.cells #[.string ⟨#[70, 40, 97, 41, 32, 97]⟩] 9)
  have hB1 := hB.alloc hB.size (.cells #[.string ⟨#[70, 40, 97, 41, 32, 97]⟩] 9)
  have KK := Lib.hid (lcomes_err (.slice (some ⟨W.heap.size, 0, none⟩) 1 1) [⟨#[70, 40, 97, 41, 32, 97]⟩] ⟨#[70, 40, 49]⟩ 80 58 (W.alloc (.cells #[.string ⟨#[70, 40, 97, 41, 32, 97]⟩] 9)) (hG.later hB1) (sts_box1 hal) (by decide) (by decide) (by decide) (by decide) ex8_k)
  have HB1 := Lib.hid hB1
  clear hal hB1
  clear hB
  refine wp_sec 11 awBody8 rfl ?_
  conv => arg 2; whnf
  go_wp2_with fail
  refine KK.out.mono ?_
  rintro e w2 ⟨rfl, hB2⟩
  have HB2 := Lib.hid (Below.then HB1.out hB2)
  clear hB2
  go_wp2_with fail
  exact aw8_12 w w2 HG.out HB2.out _ _ _ _ _ _ _ _ _ _ _ _ _ _ _ _ _ _ _ _ _ _ _ _ _ _ _ _ _ _ _ _ _ _ _ _ _ _ _ _ _ _ _ _ _ _ _ _ _ _ _ _ _ _ _ _ _ _ _ _ _ _ _ _

set_option maxRecDepth 100000 in
set_option maxHeartbeats 4000000 in
theorem aw8_10 (w W : World) (hG : Glob w) (hB : Below w.heap.size w W) (c0 c2 c6 c10 c11 c12 c13 c14 c15 c16 c17 c18 c19 c20 c21 c22 c23 c24 c25 c26 c27 c28 c29 c30 c31 c32 c33 c34 c35 c36 c37 c38 c39 c40 c41 c42 c43 c44 c45 c46 c47 c48 c49 c50 c51 c52 c53 c54 c55 c56 c57 c58 c59 c60 c61 c62 c63 c64 c65 c66 c67 c68 c69 c70 c71 c72 : Value) :
    Code.wp Tryz.prog (secs 10 awBody8) (bodyPost Tryz.prog Tryz.f7 (TruePost w)) ⟨#[c0, .string ⟨#[88, 32, 43, 32, 49]⟩, c2, .string ⟨#[49, 32, 43, 32, 50, 32, 42, 32, 49, 32, 43, 32, 50]⟩, .string ⟨#[70]⟩, .string ⟨#[42]⟩, c6, .string ⟨#[55]⟩, .string ⟨#[65]⟩, .string ⟨#[34, 49, 44, 32, 92, 34, 120, 92, 34, 34]⟩, c10, c11, c12, c13, c14, c15, c16, c17, c18, c19, c20, c21, c22, c23, c24, c25, c26, c27, c28, c29, c30, c31, c32, c33, c34, c35, c36, c37, c38, c39, c40, c41, c42, c43, c44, c45, c46, c47, c48, c49, c50, c51, c52, c53, c54, c55, c56, c57, c58, c59, c60, c61, c62, c63, c64, c65, c66, c67, c68, c69, c70, c71, c72], []⟩ W := by
  have HB := Lib.hid hB
  have HG := Lib.hid hG
  have hal := heap_alloc_new W (.cells #[.string ⟨#[70, 40, 97, 41, 32, 97]⟩] 9)
  have hB1 := hB.alloc hB.size (.cells #[.string ⟨#[70, 40, 97, 41, 32, 97]⟩] 9)
  have KK := Lib.hid (lcomes_err (.slice (some ⟨W.heap.size, 0, none⟩) 1 1) [⟨#[70, 40, 97, 41, 32, 97]⟩] ⟨#[70, 40, 49, 44, 32, 50, 41]⟩ 81 59 (W.alloc (.cells #[.string ⟨#[70, 40, 97, 41, 32, 97]⟩] 9)) (hG.later hB1) (sts_box1 hal) (by decide) (by decide) (by decide) (by decide) ex8_j)
  have HB1 := Lib.hid hB1
  clear hal hB1
  clear hB
  refine wp_sec 10 awBody8 rfl ?_
  conv => arg 2; whnf
  go_wp2_with fail
  refine KK.out.mono ?_
  rintro e w2 ⟨rfl, hB2⟩
  have HB2 := Lib.hid (Below.then HB1.out hB2)
  clear hB2
  go_wp2_with fail
  exact aw8_11 w w2 HG.out HB2.out _ _ _ _ _ _ _ _ _ _ _ _ _ _ _ _ _ _ _ _ _ _ _ _ _ _ _ _ _ _ _ _ _ _ _ _ _ _ _ _ _ _ _ _ _ _ _ _ _ _ _ _ _ _ _ _ _ _ _ _ _ _ _ _ _

set_option maxRecDepth 100000 in
set_option maxHeartbeats 4000000 in
theorem aw8_9 (w W : World) (hG : Glob w) (hB : Below w.heap.size w W) (c0 c2 c6 c9 c10 c11 c12 c13 c14 c15 c16 c17 c18 c19 c20 c21 c22 c23 c24 c25 c26 c27 c28 c29 c30 c31 c32 c33 c34 c35 c36 c37 c38 c39 c40 c41 c42 c43 c44 c45 c46 c47 c48 c49 c50 c51 c52 c53 c54 c55 c56 c57 c58 c59 c60 c61 c62 c63 c64 c65 c66 c67 c68 c69 c70 c71 c72 : Value) :
    Code.wp Tryz.prog (secs 9 awBody8) (bodyPost Tryz.prog Tryz.f7 (TruePost w)) ⟨#[c0, .string ⟨#[88, 32, 43, 32, 49]⟩, c2, .string ⟨#[49, 32, 43, 32, 50, 32, 42, 32, 49, 32, 43, 32, 50]⟩, .string ⟨#[70]⟩, .string ⟨#[42]⟩, c6, .string ⟨#[55]⟩, .string ⟨#[65]⟩, c9, c10, c11, c12, c13, c14, c15, c16, c17, c18, c19, c20, c21, c22, c23, c24, c25, c26, c27, c28, c29, c30, c31, c32, c33, c34, c35, c36, c37, c38, c39, c40, c41, c42, c43, c44, c45, c46, c47, c48, c49, c50, c51, c52, c53, c54, c55, c56, c57, c58, c59, c60, c61, c62, c63, c64, c65, c66, c67, c68, c69, c70, c71, c72], []⟩ W := by
  have HB := Lib.hid hB
  have HG := Lib.hid hG
  have hal := heap_alloc_new W (.cells #[.string ⟨#[83, 40, 46, 46, 46, 41, 32, 35, 95, 95, 86, 65, 95, 65, 82, 71, 83, 95, 95]⟩] 9)
  have hB1 := hB.alloc hB.size (.cells #[.string ⟨#[83, 40, 46, 46, 46, 41, 32, 35, 95, 95, 86, 65, 95, 65, 82, 71, 83, 95, 95]⟩] 9)
  have KK := Lib.hid (lcomes_text (.slice (some ⟨W.heap.size, 0, none⟩) 1 1) [⟨#[83, 40, 46, 46, 46, 41, 32, 35, 95, 95, 86, 65, 95, 65, 82, 71, 83, 95, 95]⟩] ⟨#[83, 40, 49, 44, 32, 32, 34, 120, 34, 41]⟩ [34, 49, 44, 32, 92, 34, 120, 92, 34, 34] (W.alloc (.cells #[.string ⟨#[83, 40, 46, 46, 46, 41, 32, 35, 95, 95, 86, 65, 95, 65, 82, 71, 83, 95, 95]⟩] 9)) (hG.later hB1) (sts_box1 hal) (by decide) (by decide) (by decide) (by decide) ex8_i)
  have HB1 := Lib.hid hB1
  clear hal hB1
  clear hB
  refine wp_sec 9 awBody8 rfl ?_
  conv => arg 2; whnf
  go_wp2_with fail
  refine KK.out.mono ?_
  rintro e w2 ⟨rfl, hB2⟩
  have HB2 := Lib.hid (Below.then HB1.out hB2)
  clear hB2
  go_wp2_with fail
  exact aw8_10 w w2 HG.out HB2.out _ _ _ _ _ _ _ _ _ _ _ _ _ _ _ _ _ _ _ _ _ _ _ _ _ _ _ _ _ _ _ _ _ _ _ _ _ _ _ _ _ _ _ _ _ _ _ _ _ _ _ _ _ _ _ _ _ _ _ _ _ _ _ _ _ _

set_option maxRecDepth 100000 in
set_option maxHeartbeats 4000000 in
theorem aw8_8 (w W : World) (hG : Glob w) (hB : Below w.heap.size w W) (bC : Nat) (kC : W.heap[bC]? = some (.cells #[.string ⟨#[67, 40, 97, 44, 32, 98, 41, 32, 97, 35, 35, 98]⟩, .string ⟨#[65, 66, 32, 55]⟩] 9 (0, 0))) (c0 c2 c8 c9 c10 c11 c12 c13 c14 c15 c16 c17 c18 c19 c20 c21 c22 c23 c24 c25 c26 c27 c28 c29 c30 c31 c32 c33 c34 c35 c36 c37 c38 c39 c40 c41 c42 c43 c44 c45 c46 c47 c48 c49 c50 c51 c52 c53 c54 c55 c56 c57 c58 c59 c60 c61 c62 c63 c64 c65 c66 c67 c68 c69 c70 c71 c72 : Value) :
    Code.wp Tryz.prog (secs 8 awBody8) (bodyPost Tryz.prog Tryz.f7 (TruePost w)) ⟨#[c0, .string ⟨#[88, 32, 43, 32, 49]⟩, c2, .string ⟨#[49, 32, 43, 32, 50, 32, 42, 32, 49, 32, 43, 32, 50]⟩, .string ⟨#[70]⟩, .string ⟨#[42]⟩, .slice (some ⟨bC, 0, none⟩) 2 2, .string ⟨#[55]⟩, c8, c9, c10, c11, c12, c13, c14, c15, c16, c17, c18, c19, c20, c21, c22, c23, c24, c25, c26, c27, c28, c29, c30, c31, c32, c33, c34, c35, c36, c37, c38, c39, c40, c41, c42, c43, c44, c45, c46, c47, c48, c49, c50, c51, c52, c53, c54, c55, c56, c57, c58, c59, c60, c61, c62, c63, c64, c65, c66, c67, c68, c69, c70, c71, c72], []⟩ W := by
  have HB := Lib.hid hB
  have HG := Lib.hid hG
  have KC := Lib.hid kC
  have KK := Lib.hid (lcomes_text _ [⟨#[67, 40, 97, 44, 32, 98, 41, 32, 97, 35, 35, 98]⟩, ⟨#[65, 66, 32, 55]⟩] ⟨#[67, 40, 65, 44, 41]⟩ [65] W (hG.later hB) (sts_box2 kC) (by decide) (by decide) (by decide) (by decide) ex8_h)
  have HB1 := Lib.hid hB
  clear hB kC
  refine wp_sec 8 awBody8 rfl ?_
  conv => arg 2; whnf
  go_wp2_with fail
  refine KK.out.mono ?_
  rintro e w2 ⟨rfl, hB2⟩
  have HB2 := Lib.hid (Below.then HB1.out hB2)
  clear hB2
  go_wp2_with fail
  exact aw8_9 w w2 HG.out HB2.out _ _ _ _ _ _ _ _ _ _ _ _ _ _ _ _ _ _ _ _ _ _ _ _ _ _ _ _ _ _ _ _ _ _ _ _ _ _ _ _ _ _ _ _ _ _ _ _ _ _ _ _ _ _ _ _ _ _ _ _ _ _ _ _ _ _ _

set_option maxRecDepth 100000 in
set_option maxHeartbeats 4000000 in
theorem aw8_7 (w W : World) (hG : Glob w) (hB : Below w.heap.size w W) (bC : Nat) (kC : W.heap[bC]? = some (.cells #[.string ⟨#[67, 40, 97, 44, 32, 98, 41, 32, 97, 35, 35, 98]⟩, .string ⟨#[65, 66, 32, 55]⟩] 9 (0, 0))) (c0 c2 c7 c8 c9 c10 c11 c12 c13 c14 c15 c16 c17 c18 c19 c20 c21 c22 c23 c24 c25 c26 c27 c28 c29 c30 c31 c32 c33 c34 c35 c36 c37 c38 c39 c40 c41 c42 c43 c44 c45 c46 c47 c48 c49 c50 c51 c52 c53 c54 c55 c56 c57 c58 c59 c60 c61 c62 c63 c64 c65 c66 c67 c68 c69 c70 c71 c72 : Value) :
    Code.wp Tryz.prog (secs 7 awBody8) (bodyPost Tryz.prog Tryz.f7 (TruePost w)) ⟨#[c0, .string ⟨#[88, 32, 43, 32, 49]⟩, c2, .string ⟨#[49, 32, 43, 32, 50, 32, 42, 32, 49, 32, 43, 32, 50]⟩, .string ⟨#[70]⟩, .string ⟨#[42]⟩, .slice (some ⟨bC, 0, none⟩) 2 2, c7, c8, c9, c10, c11, c12, c13, c14, c15, c16, c17, c18, c19, c20, c21, c22, c23, c24, c25, c26, c27, c28, c29, c30, c31, c32, c33, c34, c35, c36, c37, c38, c39, c40, c41, c42, c43, c44, c45, c46, c47, c48, c49, c50, c51, c52, c53, c54, c55, c56, c57, c58, c59, c60, c61, c62, c63, c64, c65, c66, c67, c68, c69, c70, c71, c72], []⟩ W := by
  have HB := Lib.hid hB
  have HG := Lib.hid hG
  have KC := Lib.hid kC
  have KK := Lib.hid (lcomes_text _ [⟨#[67, 40, 97, 44, 32, 98, 41, 32, 97, 35, 35, 98]⟩, ⟨#[65, 66, 32, 55]⟩] ⟨#[67, 40, 65, 44, 32, 66, 41]⟩ [55] W (hG.later hB) (sts_box2 kC) (by decide) (by decide) (by decide) (by decide) ex8_g)
  have HB1 := Lib.hid hB
  clear hB kC
  refine wp_sec 7 awBody8 rfl ?_
  conv => arg 2; whnf
  go_wp2_with fail
  refine KK.out.mono ?_
  rintro e w2 ⟨rfl, hB2⟩
  have HB2 := Lib.hid (Below.then HB1.out hB2)
  have KC2 := Lib.hid ((hB2.block _ (lt_of_heap KC.out)).trans KC.out)
  clear hB2
  go_wp2_with fail
  exact aw8_8 w w2 HG.out HB2.out _ KC2.out _ _ _ _ _ _ _ _ _ _ _ _ _ _ _ _ _ _ _ _ _ _ _ _ _ _ _ _ _ _ _ _ _ _ _ _ _ _ _ _ _ _ _ _ _ _ _ _ _ _ _ _ _ _ _ _ _ _ _ _ _ _ _ _ _ _ _

set_option maxRecDepth 100000 in
set_option maxHeartbeats 4000000 in
theorem aw8_6 (w W : World) (hG : Glob w) (hB : Below w.heap.size w W) (c0 c2 c6 c7 c8 c9 c10 c11 c12 c13 c14 c15 c16 c17 c18 c19 c20 c21 c22 c23 c24 c25 c26 c27 c28 c29 c30 c31 c32 c33 c34 c35 c36 c37 c38 c39 c40 c41 c42 c43 c44 c45 c46 c47 c48 c49 c50 c51 c52 c53 c54 c55 c56 c57 c58 c59 c60 c61 c62 c63 c64 c65 c66 c67 c68 c69 c70 c71 c72 : Value) :
    Code.wp Tryz.prog (secs 6 awBody8) (bodyPost Tryz.prog Tryz.f7 (TruePost w)) ⟨#[c0, .string ⟨#[88, 32, 43, 32, 49]⟩, c2, .string ⟨#[49, 32, 43, 32, 50, 32, 42, 32, 49, 32, 43, 32, 50]⟩, .string ⟨#[70]⟩, .string ⟨#[42]⟩, c6, c7, c8, c9, c10, c11, c12, c13, c14, c15, c16, c17, c18, c19, c20, c21, c22, c23, c24, c25, c26, c27, c28, c29, c30, c31, c32, c33, c34, c35, c36, c37, c38, c39, c40, c41, c42, c43, c44, c45, c46, c47, c48, c49, c50, c51, c52, c53, c54, c55, c56, c57, c58, c59, c60, c61, c62, c63, c64, c65, c66, c67, c68, c69, c70, c71, c72], []⟩ W := by
  have HB := Lib.hid hB
  have hal := heap_alloc_new W (.cells #[.string ⟨#[67, 40, 97, 44, 32, 98, 41, 32, 97, 35, 35, 98]⟩, .string ⟨#[65, 66, 32, 55]⟩] 9)
  have HAL := Lib.hid hal
  clear hB hal
  refine wp_sec 6 awBody8 rfl ?_
  conv => arg 2; whnf
  go_wp2_with fail
  exact aw8_7 w _ hG (HB.out.alloc HB.out.size _) _ HAL.out _ _ _ _ _ _ _ _ _ _ _ _ _ _ _ _ _ _ _ _ _ _ _ _ _ _ _ _ _ _ _ _ _ _ _ _ _ _ _ _ _ _ _ _ _ _ _ _ _ _ _ _ _ _ _ _ _ _ _ _ _ _ _ _ _ _ _ _

set_option maxRecDepth 100000 in
set_option maxHeartbeats 4000000 in
theorem aw8_5 (w W : World) (hG : Glob w) (hB : Below w.heap.size w W) (bF : Nat) (kF : W.heap[bF]? = some (.cells #[.string ⟨#[70, 40, 97, 41, 32, 97, 32, 42, 32, 97]⟩] 9 (0, 0))) (c0 c5 c6 c7 c8 c9 c10 c11 c12 c13 c14 c15 c16 c17 c18 c19 c20 c21 c22 c23 c24 c25 c26 c27 c28 c29 c30 c31 c32 c33 c34 c35 c36 c37 c38 c39 c40 c41 c42 c43 c44 c45 c46 c47 c48 c49 c50 c51 c52 c53 c54 c55 c56 c57 c58 c59 c60 c61 c62 c63 c64 c65 c66 c67 c68 c69 c70 c71 c72 : Value) :
    Code.wp Tryz.prog (secs 5 awBody8) (bodyPost Tryz.prog Tryz.f7 (TruePost w)) ⟨#[c0, .string ⟨#[88, 32, 43, 32, 49]⟩, .slice (some ⟨bF, 0, none⟩) 1 1, .string ⟨#[49, 32, 43, 32, 50, 32, 42, 32, 49, 32, 43, 32, 50]⟩, .string ⟨#[70]⟩, c5, c6, c7, c8, c9, c10, c11, c12, c13, c14, c15, c16, c17, c18, c19, c20, c21, c22, c23, c24, c25, c26, c27, c28, c29, c30, c31, c32, c33, c34, c35, c36, c37, c38, c39, c40, c41, c42, c43, c44, c45, c46, c47, c48, c49, c50, c51, c52, c53, c54, c55, c56, c57, c58, c59, c60, c61, c62, c63, c64, c65, c66, c67, c68, c69, c70, c71, c72], []⟩ W := by
  have HB := Lib.hid hB
  have HG := Lib.hid hG
  have KF := Lib.hid kF
  have KK := Lib.hid (lcomes_text _ [⟨#[70, 40, 97, 41, 32, 97, 32, 42, 32, 97]⟩] ⟨#[70, 32, 40, 41]⟩ [42] W (hG.later hB) (sts_box1 kF) (by decide) (by decide) (by decide) (by decide) ex8_d)
  have HB1 := Lib.hid hB
  clear hB kF
  refine wp_sec 5 awBody8 rfl ?_
  conv => arg 2; whnf
  go_wp2_with fail
  refine KK.out.mono ?_
  rintro e w2 ⟨rfl, hB2⟩
  have HB2 := Lib.hid (Below.then HB1.out hB2)
  clear hB2
  go_wp2_with fail
  exact aw8_6 w w2 HG.out HB2.out _ _ _ _ _ _ _ _ _ _ _ _ _ _ _ _ _ _ _ _ _ _ _ _ _ _ _ _ _ _ _ _ _ _ _ _ _ _ _ _ _ _ _ _ _ _ _ _ _ _ _ _ _ _ _ _ _ _ _ _ _ _ _ _ _ _ _ _ _

set_option maxRecDepth 100000 in
set_option maxHeartbeats 4000000 in
theorem aw8_4 (w W : World) (hG : Glob w) (hB : Below w.heap.size w W) (bF : Nat) (kF : W.heap[bF]? = some (.cells #[.string ⟨#[70, 40, 97, 41, 32, 97, 32, 42, 32, 97]⟩] 9 (0, 0))) (c0 c4 c5 c6 c7 c8 c9 c10 c11 c12 c13 c14 c15 c16 c17 c18 c19 c20 c21 c22 c23 c24 c25 c26 c27 c28 c29 c30 c31 c32 c33 c34 c35 c36 c37 c38 c39 c40 c41 c42 c43 c44 c45 c46 c47 c48 c49 c50 c51 c52 c53 c54 c55 c56 c57 c58 c59 c60 c61 c62 c63 c64 c65 c66 c67 c68 c69 c70 c71 c72 : Value) :
    Code.wp Tryz.prog (secs 4 awBody8) (bodyPost Tryz.prog Tryz.f7 (TruePost w)) ⟨#[c0, .string ⟨#[88, 32, 43, 32, 49]⟩, .slice (some ⟨bF, 0, none⟩) 1 1, .string ⟨#[49, 32, 43, 32, 50, 32, 42, 32, 49, 32, 43, 32, 50]⟩, c4, c5, c6, c7, c8, c9, c10, c11, c12, c13, c14, c15, c16, c17, c18, c19, c20, c21, c22, c23, c24, c25, c26, c27, c28, c29, c30, c31, c32, c33, c34, c35, c36, c37, c38, c39, c40, c41, c42, c43, c44, c45, c46, c47, c48, c49, c50, c51, c52, c53, c54, c55, c56, c57, c58, c59, c60, c61, c62, c63, c64, c65, c66, c67, c68, c69, c70, c71, c72], []⟩ W := by
  have HB := Lib.hid hB
  have HG := Lib.hid hG
  have KF := Lib.hid kF
  have KK := Lib.hid (lcomes_text _ [⟨#[70, 40, 97, 41, 32, 97, 32, 42, 32, 97]⟩] ⟨#[70]⟩ [70] W (hG.later hB) (sts_box1 kF) (by decide) (by decide) (by decide) (by decide) ex8_c)
  have HB1 := Lib.hid hB
  clear hB kF
  refine wp_sec 4 awBody8 rfl ?_
  conv => arg 2; whnf
  go_wp2_with fail
  refine KK.out.mono ?_
  rintro e w2 ⟨rfl, hB2⟩
  have HB2 := Lib.hid (Below.then HB1.out hB2)
  have KF2 := Lib.hid ((hB2.block _ (lt_of_heap KF.out)).trans KF.out)
  clear hB2
  go_wp2_with fail
  exact aw8_5 w w2 HG.out HB2.out _ KF2.out _ _ _ _ _ _ _ _ _ _ _ _ _ _ _ _ _ _ _ _ _ _ _ _ _ _ _ _ _ _ _ _ _ _ _ _ _ _ _ _ _ _ _ _ _ _ _ _ _ _ _ _ _ _ _ _ _ _ _ _ _ _ _ _ _ _ _ _ _

set_option maxRecDepth 100000 in
set_option maxHeartbeats 4000000 in
theorem aw8_3 (w W : World) (hG : Glob w) (hB : Below w.heap.size w W) (bF : Nat) (kF : W.heap[bF]? = some (.cells #[.string ⟨#[70, 40, 97, 41, 32, 97, 32, 42, 32, 97]⟩] 9 (0, 0))) (c0 c3 c4 c5 c6 c7 c8 c9 c10 c11 c12 c13 c14 c15 c16 c17 c18 c19 c20 c21 c22 c23 c24 c25 c26 c27 c28 c29 c30 c31 c32 c33 c34 c35 c36 c37 c38 c39 c40 c41 c42 c43 c44 c45 c46 c47 c48 c49 c50 c51 c52 c53 c54 c55 c56 c57 c58 c59 c60 c61 c62 c63 c64 c65 c66 c67 c68 c69 c70 c71 c72 : Value) :
    Code.wp Tryz.prog (secs 3 awBody8) (bodyPost Tryz.prog Tryz.f7 (TruePost w)) ⟨#[c0, .string ⟨#[88, 32, 43, 32, 49]⟩, .slice (some ⟨bF, 0, none⟩) 1 1, c3, c4, c5, c6, c7, c8, c9, c10, c11, c12, c13, c14, c15, c16, c17, c18, c19, c20, c21, c22, c23, c24, c25, c26, c27, c28, c29, c30, c31, c32, c33, c34, c35, c36, c37, c38, c39, c40, c41, c42, c43, c44, c45, c46, c47, c48, c49, c50, c51, c52, c53, c54, c55, c56, c57, c58, c59, c60, c61, c62, c63, c64, c65, c66, c67, c68, c69, c70, c71, c72], []⟩ W := by
  have HB := Lib.hid hB
  have HG := Lib.hid hG
  have KF := Lib.hid kF
  have KK := Lib.hid (lcomes_text _ [⟨#[70, 40, 97, 41, 32, 97, 32, 42, 32, 97]⟩] ⟨#[70, 40, 49, 32, 43, 32, 50, 41]⟩ [49, 32, 43, 32, 50, 32, 42, 32, 49, 32, 43, 32, 50] W (hG.later hB) (sts_box1 kF) (by decide) (by decide) (by decide) (by decide) ex8_b)
  have HB1 := Lib.hid hB
  clear hB kF
  refine wp_sec 3 awBody8 rfl ?_
  conv => arg 2; whnf
  go_wp2_with fail
  refine KK.out.mono ?_
  rintro e w2 ⟨rfl, hB2⟩
  have HB2 := Lib.hid (Below.then HB1.out hB2)
  have KF2 := Lib.hid ((hB2.block _ (lt_of_heap KF.out)).trans KF.out)
  clear hB2
  go_wp2_with fail
  exact aw8_4 w w2 HG.out HB2.out _ KF2.out _ _ _ _ _ _ _ _ _ _ _ _ _ _ _ _ _ _ _ _ _ _ _ _ _ _ _ _ _ _ _ _ _ _ _ _ _ _ _ _ _ _ _ _ _ _ _ _ _ _ _ _ _ _ _ _ _ _ _ _ _ _ _ _ _ _ _ _ _ _

set_option maxRecDepth 100000 in
set_option maxHeartbeats 4000000 in
theorem aw8_2 (w W : World) (hG : Glob w) (hB : Below w.heap.size w W) (c0 c2 c3 c4 c5 c6 c7 c8 c9 c10 c11 c12 c13 c14 c15 c16 c17 c18 c19 c20 c21 c22 c23 c24 c25 c26 c27 c28 c29 c30 c31 c32 c33 c34 c35 c36 c37 c38 c39 c40 c41 c42 c43 c44 c45 c46 c47 c48 c49 c50 c51 c52 c53 c54 c55 c56 c57 c58 c59 c60 c61 c62 c63 c64 c65 c66 c67 c68 c69 c70 c71 c72 : Value) :
    Code.wp Tryz.prog (secs 2 awBody8) (bodyPost Tryz.prog Tryz.f7 (TruePost w)) ⟨#[c0, .string ⟨#[88, 32, 43, 32, 49]⟩, c2, c3, c4, c5, c6, c7, c8, c9, c10, c11, c12, c13, c14, c15, c16, c17, c18, c19, c20, c21, c22, c23, c24, c25, c26, c27, c28, c29, c30, c31, c32, c33, c34, c35, c36, c37, c38, c39, c40, c41, c42, c43, c44, c45, c46, c47, c48, c49, c50, c51, c52, c53, c54, c55, c56, c57, c58, c59, c60, c61, c62, c63, c64, c65, c66, c67, c68, c69, c70, c71, c72], []⟩ W := by
  have HB := Lib.hid hB
  have hal := heap_alloc_new W (.cells #[.string ⟨#[70, 40, 97, 41, 32, 97, 32, 42, 32, 97]⟩] 9)
  have HAL := Lib.hid hal
  clear hB hal
  refine wp_sec 2 awBody8 rfl ?_
  conv => arg 2; whnf
  go_wp2_with fail
  exact aw8_3 w _ hG (HB.out.alloc HB.out.size _) _ HAL.out _ _ _ _ _ _ _ _ _ _ _ _ _ _ _ _ _ _ _ _ _ _ _ _ _ _ _ _ _ _ _ _ _ _ _ _ _ _ _ _ _ _ _ _ _ _ _ _ _ _ _ _ _ _ _ _ _ _ _ _ _ _ _ _ _ _ _ _ _ _ _

set_option maxRecDepth 100000 in
set_option maxHeartbeats 4000000 in
theorem aw8_1 (w W : World) (hG : Glob w) (hB : Below w.heap.size w W) (c0 c1 c2 c3 c4 c5 c6 c7 c8 c9 c10 c11 c12 c13 c14 c15 c16 c17 c18 c19 c20 c21 c22 c23 c24 c25 c26 c27 c28 c29 c30 c31 c32 c33 c34 c35 c36 c37 c38 c39 c40 c41 c42 c43 c44 c45 c46 c47 c48 c49 c50 c51 c52 c53 c54 c55 c56 c57 c58 c59 c60 c61 c62 c63 c64 c65 c66 c67 c68 c69 c70 c71 c72 : Value) :
    Code.wp Tryz.prog (secs 1 awBody8) (bodyPost Tryz.prog Tryz.f7 (TruePost w)) ⟨#[c0, c1, c2, c3, c4, c5, c6, c7, c8, c9, c10, c11, c12, c13, c14, c15, c16, c17, c18, c19, c20, c21, c22, c23, c24, c25, c26, c27, c28, c29, c30, c31, c32, c33, c34, c35, c36, c37, c38, c39, c40, c41, c42, c43, c44, c45, c46, c47, c48, c49, c50, c51, c52, c53, c54, c55, c56, c57, c58, c59, c60, c61, c62, c63, c64, c65, c66, c67, c68, c69, c70, c71, c72], []⟩ W := by
  have HB := Lib.hid hB
  have HG := Lib.hid hG
  have hal := heap_alloc_new W (.cells #[.string ⟨#[88, 32, 89]⟩, .string ⟨#[89, 32, 88, 32, 43, 32, 49]⟩] 9)
  have hB1 := hB.alloc hB.size (.cells #[.string ⟨#[88, 32, 89]⟩, .string ⟨#[89, 32, 88, 32, 43, 32, 49]⟩] 9)
  have KK := Lib.hid (lcomes_text (.slice (some ⟨W.heap.size, 0, none⟩) 2 2) [⟨#[88, 32, 89]⟩, ⟨#[89, 32, 88, 32, 43, 32, 49]⟩] ⟨#[88]⟩ [88, 32, 43, 32, 49] (W.alloc (.cells #[.string ⟨#[88, 32, 89]⟩, .string ⟨#[89, 32, 88, 32, 43, 32, 49]⟩] 9)) (hG.later hB1) (sts_box2 hal) (by decide) (by decide) (by decide) (by decide) ex8_a)
  have HB1 := Lib.hid hB1
  clear hal hB1
  clear hB
  refine wp_sec 1 awBody8 rfl ?_
  conv => arg 2; whnf
  go_wp2_with fail
  refine KK.out.mono ?_
  rintro e w2 ⟨rfl, hB2⟩
  have HB2 := Lib.hid (Below.then HB1.out hB2)
  clear hB2
  go_wp2_with fail
  exact aw8_2 w w2 HG.out HB2.out _ _ _ _ _ _ _ _ _ _ _ _ _ _ _ _ _ _ _ _ _ _ _ _ _ _ _ _ _ _ _ _ _ _ _ _ _ _ _ _ _ _ _ _ _ _ _ _ _ _ _ _ _ _ _ _ _ _ _ _ _ _ _ _ _ _ _ _ _ _ _ _

set_option maxRecDepth 100000 in
set_option maxHeartbeats 4000000 in
theorem awake8_any (w : World) (hG : Glob w) : Calls Tryz.prog 7 #[] w (TruePost w) := by
  go_enter Tryz.func7, Tryz.ntmps7
  show Code.wp Tryz.prog (secs 0 awBody8) _ _ _
  refine wp_sec 0 awBody8 rfl ?_
  conv => arg 2; whnf
  go_wp2_with fail
  exact aw8_1 w w hG (Below.refl _ w) _ _ _ _ _ _ _ _ _ _ _ _ _ _ _ _ _ _ _ _ _ _ _ _ _ _ _ _ _ _ _ _ _ _ _ _ _ _ _ _ _ _ _ _ _ _ _ _ _ _ _ _ _ _ _ _ _ _ _ _ _ _ _ _ _ _ _ _ _ _ _ _ _
end Go.Proofs.YtlepnafgcmeimaaGreatDoor

/- What is proved: lists of the same tokens are the same by the document. -/
namespace Go.Proofs.YtlepnafgcmeimaaGreatDoor
open Go.RowKit Go.Shelf

set_option maxRecDepth 100000 in
set_option maxHeartbeats 4000000 in
theorem sameK_any (v u : Value) (l : List K) (w : World) (hv : Ks w v l) (hu : Ks w u l) (hl : l.length ≤ 1000000000) :
    Calls Tryz.prog 11 #[v, u] w (TruePost w) := by
  obtain ⟨ad, cap, rfl, -⟩ := id hv
  obtain ⟨bd, dap, rfl, -⟩ := id hu
  rcases Nat.eq_zero_or_pos l.length with h0 | hpos
  · obtain rfl : l = [] := List.length_eq_zero_iff.1 h0
    clear hv hu
    go_enter Tryz.func11, Tryz.ntmps11
    go_wp2_with fail
    go_loop [5] (fun i => i = .int .i64 0) (fun _ => 0)
    case atStart => exact rfl
    case round =>
      obtain rfl := hrel
      go_wp2_with fail
      go_ret
      exact ⟨rfl, Below.refl _ _⟩
  · obtain ⟨g, o, rfl, -, hcap, hmax, hg, hc⟩ := hv.cells hpos
    obtain ⟨g', o', rfl, -, hcap', hmax', hg', hc'⟩ := hu.cells hpos
    unfold maxLen at hmax hmax'
    obtain ⟨n, hn⟩ : ∃ n, n = l.length := ⟨_, rfl⟩
    rw [← hn] at hl hcap hpos hcap'
    rw [← hn]
    have Hn := Lib.hid hn
    have HC := Lib.hid hc
    have HC' := Lib.hid hc'
    clear hn hc hc' hv hu
    go_enter Tryz.func11, Tryz.ntmps11
    go_wp2_with fail
    go_loopw [5] (fun i wr => ∃ k : Nat, i = .int .i64 k ∧ k ≤ n ∧ Below w.heap.size w wr) (fun i _ => n - (intOf i).toNat)
    case atStart => exact ⟨0, rfl, Nat.zero_le _, Below.refl _ _⟩
    case round =>
      obtain ⟨k, rfl, hk, hB⟩ := hrel
      have hsB := hB.size
      by_cases hlt : k < n
      · obtain ⟨t, ht⟩ : ∃ t, l[k]? = some t := ⟨_, List.getElem?_eq_getElem (by rw [← Hn.out]; exact hlt)⟩
        obtain ⟨d0, d1, d2, d3, d4, d5⟩ := (HC.out k t ht).below hB hg
        obtain ⟨x0, x1, x2, x3, x4, x5⟩ := (HC'.out k t ht).below hB hg'
        have hq : ∀ W, (Op.equalIn 10000 30 (.agg #[.int .i64 t.kind, .string t.text, .int .i64 t.file, .int .i64 t.fr, .int .i64 t.en, .bool t.bl]) (.agg #[.int .i64 t.kind, .string t.text, .int .i64 t.file, .int .i64 t.fr, .int .i64 t.en, .bool t.bl])).run Tryz.prog W = .ok true W := fun W => run_sameTok _ _ _ _ _ _ W
        have z1 : (0 : Int) ≤ k := by omega
        have z2 : (k : Int) < n := by omega
        clear ht
        go_wp2_with fail
        go_quiet (fail)
        go_wp2_with fail
        go_roundw
        case rel => exact ⟨k + 1, by go_num, by omega, below_drewN hB _⟩
        case measure => simp [intOf]; omega
      · go_wp2_with fail
        go_ret
        exact ⟨rfl, hB⟩
end Go.Proofs.YtlepnafgcmeimaaGreatDoor

/- What is proved: what has no macro's name stays (the law ExpandNone), in whatever memory. -/
namespace Go.Proofs.YtlepnafgcmeimaaGreatDoor
open Go.RowKit Go.Shelf
open Mx (M)

theorem bareH_lined_cons (b : Bool) (t : K) (r : List K) : Ep.bareH (Ep.lined b (t :: r)) = if t.kind = 7 then Ep.bareH (Ep.lined true r) else Ep.blK t (t.bl || b) :: Ep.bareH (Ep.lined false r) := by
  rw [Ep.lined]
  split
  · rfl
  · rfl
theorem msv_some {W : World} {ad : Option Addr} {n cap : Nat} {ms : List M} (h : MsV W (.slice ad n cap) ms) {i : Nat} {m : M} (hm : ms[i]? = some m) : ∃ g o, ad = some ⟨g, o, none⟩ ∧ W.cell? ⟨g, o + i * 5, none⟩ = some (.string m.name) := by
  obtain ⟨ad', cap', e, -, -, h3⟩ := h
  injection e with e1 e2 e3
  obtain ⟨g, o, e', pv, bv, c, -⟩ := h3 i m hm
  exact ⟨g, o, e1.trans e', c⟩
/-- No macro's name so far. -/
def NoName (l : List K) (ms : List M) (k : Nat) : Prop := ∀ i t, i < k → l[i]? = some t → t.kind = 1 → ∀ m ∈ ms, m.name ≠ t.text
theorem NoName.all {l : List K} {ms : List M} (h : NoName l ms l.length) : ∀ t ∈ l, t.kind = 1 → ∀ m ∈ ms, m.name ≠ t.text := fun t ht => by
  obtain ⟨i, hi⟩ := List.mem_iff_getElem?.1 ht
  exact h i t (List.getElem?_eq_some_iff.1 hi).1 hi
theorem NoName.snoc {l : List K} {ms : List M} {k : Nat} {t : K} (h : NoName l ms k) (ht : l[k]? = some t) (hn : t.kind = 1 → ∀ j m, j < ms.length → ms[j]? = some m → m.name ≠ t.text) : NoName l ms (k + 1) := fun i u hi hu h1 m hm => by
  rcases Nat.lt_or_ge i k with h' | h'
  · exact h i u h' hu h1 m hm
  · obtain rfl : i = k := by omega
    rw [ht] at hu
    injection hu with hu
    subst hu
    obtain ⟨j, hj⟩ := List.mem_iff_getElem?.1 hm
    exact hn h1 j m (List.getElem?_eq_some_iff.1 hj).1 hj

set_option maxRecDepth 100000 in
set_option maxHeartbeats 8000000 in
theorem lnone_any (v : Value) (ds : List ByteArray) (s : ByteArray) (w : World) (hG : Glob w) (hv : Sts w v ds) (hl : ds.length ≤ 2000000) (hds : ∀ d ∈ ds, d.size ≤ 2000000) (hs : s.size ≤ 140737488355328) :
    Calls Tryz.prog 3 #[v, .string s] w (TruePost w) := by
  obtain ⟨i0, hi, hz0, hz1, hz2⟩ := info_parts infoTok
  have HG := Lib.hid hG
  have HV := Lib.hid hv
  have HDS := Lib.hid hds
  have hsz : s.size ≤ 500 ∨ 500 < s.size := by omega
  clear hG hv hds
  go_enter Tryz.func3, Tryz.ntmps3
  go_wp2_with fail
  refine (awake8_any w HG.out).mono ?_
  rintro e0 w0 ⟨rfl, hB0⟩
  have HB0 := Lib.hid hB0
  have KR := Lib.hid (lread_any v ds w0 (HG.out.later hB0) (HV.out.below hB0) hl HDS.out)
  clear hB0
  go_wp2_with fail
  refine KR.out.mono ?_
  rintro e1 w1 ⟨hB1, hres⟩
  have HB1 := Lib.hid (Below.then HB0.out hB1)
  clear hB1
  obtain ⟨o, ho⟩ : ∃ o, Ep.readR ds = o := ⟨_, rfl⟩
  rw [ho] at hres
  cases o with
  | none =>
    dsimp only at hres
    subst hres
    clear ho
    go_wp2_with fail
    go_ret
    exact ⟨rfl, HB1.out⟩
  | some ms =>
    obtain ⟨mv, rfl, hM⟩ := hres
    have HM := Lib.hid hM
    have HO := Lib.hid ho
    clear hM ho
    rcases hsz with h5 | h5
    · have z1 : ¬ (500 : Int) < s.size := by omega
      go_wp2_with fail
      refine (tokens_any 0 s (by omega) _ (HG.out.later HB1.out)).mono ?_
      rintro e2 w2 ⟨tv, rfl, htv, hB2⟩
      have hks := htv.ks
      have hlen := Ep.toksAt_len 0 s.data.toList
      have hsl : s.data.toList.length = s.size := size_list s
      obtain ⟨l, hl'⟩ : ∃ l, l = Ep.toksAt 0 s.data.toList := ⟨_, rfl⟩
      have hks2 : Ks w2 tv l := by rw [hl']; exact hks
      rw [← hl'] at hlen
      have HB2 := Lib.hid (Below.then HB1.out hB2)
      have hM2 := HM.out.below hB2
      have h12 := (Ep.readR_small HO.out).2.1
      obtain ⟨la, lc, rfl, -⟩ := id hks2
      obtain ⟨ma, mc, rfl, -⟩ := id hM2
      obtain ⟨n, hn⟩ : ∃ n, n = l.length := ⟨_, rfl⟩
      obtain ⟨N, hN⟩ : ∃ N, N = ms.length := ⟨_, rfl⟩
      rw [← hn] at hks2 hlen ⊢
      rw [← hN] at hM2 h12 ⊢
      have HK := Lib.hid hks2
      have HM2 := Lib.hid hM2
      have Hn := Lib.hid hn
      have HN := Lib.hid hN
      have HL := Lib.hid hl'
      clear htv hks hks2 hM2 hn hN hl' hB2
      go_wp2_with fail
      go_loopw [9, 10, 11] (fun want bl i wr => ∃ (k : Nat) (b : Bool) (acc : List K), i = .int .i64 k ∧ k ≤ n ∧ bl = .bool b ∧ wr.ownsRow w2.heap.size 30 6 want acc.length (ksCells acc) ∧ acc.length ≤ k ∧ Ep.bareH (Ep.lined false l) = acc ++ Ep.bareH (Ep.lined b (l.drop k)) ∧ NoName l ms k ∧ Below w2.heap.size w2 wr) (fun _ _ i _ => n - (intOf i).toNat)
      case atStart => exact ⟨0, false, [], rfl, Nat.zero_le _, rfl, World.ownsRow_nil _ _ _ _, Nat.le_refl _, rfl, fun i t hi => by omega, Below.refl _ _⟩
      case round =>
        obtain ⟨k, b, acc, rfl, hk, rfl, hrow, hacc, hlin, hno, hB⟩ := hrel
        by_cases hlt : k < n
        · obtain ⟨t, ht⟩ : ∃ t, l[k]? = some t := ⟨_, List.getElem?_eq_getElem (by rw [← Hn.out]; exact hlt)⟩
          have hd : l.drop k = t :: l.drop (k + 1) := by
            rw [List.drop_eq_getElem_cons (by rw [← Hn.out]; exact hlt)]
            rw [List.getElem?_eq_getElem (by rw [← Hn.out]; exact hlt)] at ht
            injection ht with ht
            rw [ht]
          rw [hd, bareH_lined_cons] at hlin
          obtain ⟨g, o, rfl, hat⟩ := ks_some HK.out ht
          have hgw := lt_of_cell hat.1
          have HAT : Hid (∀ X, Below w2.heap.size w2 X → KAt X g (o + k * 6) t) := Lib.hid (fun X hX => hat.below hX hgw)
          obtain ⟨W, rfl⟩ : ∃ W, W = wr := ⟨wr, rfl⟩
          have HROW := Lib.hid hrow
          have HLIN := Lib.hid hlin
          have HNO := Lib.hid hno
          have HB := Lib.hid hB
          have HT := Lib.hid ht
          have z2 : (0 : Int) ≤ k := by omega
          have z3 : (k : Int) < n := by omega
          clear hat hrow hlin hno hB hd ht
          go_wp2_with fail
          go_loopw [12] (fun j wr => ∃ (q : Nat), j = .int .i64 q ∧ q ≤ N ∧ (t.kind = 1 → ∀ j m, j < q → ms[j]? = some m → m.name ≠ t.text) ∧ Below W.heap.size W wr) (fun j _ => N - (intOf j).toNat)
          case atStart => exact ⟨0, rfl, Nat.zero_le _, fun _ j m hj => by omega, Below.refl _ _⟩
          case round =>
            obtain ⟨q, rfl, hq, hne, hBI⟩ := hrel
            have hBB : Below w2.heap.size w2 wr := Below.then HB.out hBI
            obtain ⟨d0, d1, d2, d3, d4, d5⟩ := HAT.out wr hBB
            by_cases hlq : q < N
            · obtain ⟨m, hm⟩ : ∃ m, ms[q]? = some m := ⟨_, List.getElem?_eq_getElem (by rw [← HN.out]; exact hlq)⟩
              obtain ⟨mg, mo, rfl, hc0⟩ := msv_some HM2.out hm
              have hc := (hBB.cell (p := ⟨mg, mo + q * 5, none⟩) (lt_of_cell hc0)).trans hc0
              have z4 : (0 : Int) ≤ q := by omega
              have z5 : (q : Int) < N := by omega
              have HNE := Lib.hid hne
              have HBB := Lib.hid hBB
              have HBI := Lib.hid hBI
              have HMQ := Lib.hid hm
              by_cases h1 : t.kind = 1
              · have q1 : (t.kind == 1) = true := by simpa using h1
                by_cases h2 : m.name = t.text
                · have q2 : (t.text.toList == m.name.toList) = true := by rw [h2]; simp
                  clear hc0 hne hBB hBI hm h1 h2
                  go_wp2_with fail
                  go_quiet (fail)
                  go_wp2_with fail
                  go_ret
                  exact ⟨rfl, below_drewN (Below.then HB2.out HBB.out) _⟩
                · have q2 : (t.text.toList == m.name.toList) = false := by rw [ba_beq]; simpa using fun e => h2 e.symm
                  clear hc0 hne hBB hBI hm h1
                  go_wp2_with fail
                  go_quiet (fail)
                  go_wp2_with fail
                  go_roundw
                  case rel =>
                    refine ⟨q + 1, by go_num, by omega, fun h1 j m' hj hm' => ?_, below_drewN HBI.out _⟩
                    rcases Nat.lt_or_ge j q with h' | h'
                    · exact HNE.out h1 j m' h' hm'
                    · obtain rfl : j = q := by omega
                      rw [HMQ.out] at hm'
                      injection hm' with hm'
                      rw [← hm']
                      exact h2
                  case measure => simp [intOf]; omega
              · have q1 : (t.kind == 1) = false := by simpa using h1
                clear hc0 hne hBB hBI hm
                go_wp2_with fail
                go_quiet (fail)
                go_wp2_with fail
                go_roundw
                case rel => exact ⟨q + 1, by go_num, by omega, fun h => absurd h h1, below_drewN HBI.out _⟩
                case measure => simp [intOf]; omega
            · obtain rfl : q = N := by omega
              have hno2 : NoName l ms (k + 1) := HNO.out.snoc HT.out (fun h1 j m hj hm => hne h1 j m (by rw [HN.out]; exact hj) hm)
              have hrow := row_heapK HROW.out (Kept.of_below hBI _)
              have HROW2 := Lib.hid hrow
              have HNO2 := Lib.hid hno2
              have HBB := Lib.hid hBB
              have hbs := hBB.size
              have htL := HLIN.out
              have hgl := lt_of_cell d0
              clear hne hno2 hBI hBB
              obtain ⟨kd, tx, f, fr, en, bl⟩ := t
              dsimp only at d0 d1 d2 d3 d4 d5 htL
              by_cases h7 : kd = 7
              · subst h7
                rw [if_pos rfl] at htL
                have HTL := Lib.hid htL
                clear htL hrow
                go_wp2_with fail
                go_roundw
                case rel => exact ⟨k + 1, true, acc, by go_num, by omega, rfl, HROW2.out, by omega, HTL.out, HNO2.out, HBB.out⟩
                case measure => simp [intOf]; omega
              · have q7 : (kd == 7) = false := by simpa using h7
                rw [if_neg h7] at htL
                have HTL := Lib.hid htL
                clear htL
                cases bl
                · go_wp2_with (at_builtin; refine wpList_append_lies _ rfl _ _ 27 rfl w2.heap.size 30 i0 _ 6 56 Tryz.underlying27 hi hz0 hz1 hz2 rfl (by decide) _ acc.length (ksCells acc) rfl ((hrow.alloc _).alloc _) ⟨wr.heap.size + 1, 0, none⟩ 1 1 (kCells ⟨kd, tx, f, fr, en, b⟩) rfl rfl (World.news_of_block (cs := #[.int .i64 kd, .string tx, .int .i64 f, .int .i64 fr, .int .i64 en, .bool b]) (t := 30) (fr := (0, 0)) (heap_alloc2_new wr _ _)) (by simp [Value.oneCell', kCells]) (by decide) (by unfold maxLen; omega) (by omega) (by simp; omega) _ rfl ?_; intro gg cap' w4 hown hgrow hat hlt2)
                  go_roundw
                  case rel =>
                    refine ⟨k + 1, false, acc ++ [⟨kd, tx, f, fr, en, b⟩], by go_num, by omega, rfl, ?_, by simp; omega, ?_, HNO2.out, ?_⟩
                    · rw [List.length_append, ksCells_append]
                      exact hown
                    · have := HTL.out
                      rw [this, List.append_assoc]
                      simp [Ep.blK]
                    · exact ((HBB.out.alloc hbs _).alloc (by simp; omega) _).grown hgrow (by simp; omega) (fun i e => (hrow.lt i e).1)
                  case measure => simp [intOf]; omega
                · go_wp2_with (at_builtin; refine wpList_append_lies _ rfl _ _ 27 rfl w2.heap.size 30 i0 _ 6 56 Tryz.underlying27 hi hz0 hz1 hz2 rfl (by decide) _ acc.length (ksCells acc) rfl ((hrow.alloc _).alloc _) ⟨wr.heap.size + 1, 0, none⟩ 1 1 (kCells ⟨kd, tx, f, fr, en, true⟩) rfl rfl (World.news_of_block (cs := #[.int .i64 kd, .string tx, .int .i64 f, .int .i64 fr, .int .i64 en, .bool true]) (t := 30) (fr := (0, 0)) (heap_alloc2_new wr _ _)) (by simp [Value.oneCell', kCells]) (by decide) (by unfold maxLen; omega) (by omega) (by simp; omega) _ rfl ?_; intro gg cap' w4 hown hgrow hat hlt2)
                  go_roundw
                  case rel =>
                    refine ⟨k + 1, false, acc ++ [⟨kd, tx, f, fr, en, true⟩], by go_num, by omega, rfl, ?_, by simp; omega, ?_, HNO2.out, ?_⟩
                    · rw [List.length_append, ksCells_append]
                      exact hown
                    · have := HTL.out
                      rw [this, List.append_assoc]
                      simp [Ep.blK]
                    · exact ((HBB.out.alloc hbs _).alloc (by simp; omega) _).grown hgrow (by simp; omega) (fun i e => (hrow.lt i e).1)
                  case measure => simp [intOf]; omega
        · obtain rfl : k = n := by omega
          have he : l.drop k = [] := List.drop_eq_nil_of_le (by rw [← Hn.out]; exact Nat.le_refl _)
          rw [he] at hlin
          have hlin2 : acc = Ep.bareH (Ep.lined false l) := by
            rw [hlin]
            show acc = acc ++ []
            rw [List.append_nil]
          have hks3 := Ks.of_row hrow
          rw [hlin2] at hks3
          have hall : ∀ t ∈ l, t.kind = 1 → ∀ m ∈ ms, m.name ≠ t.text := by
            have := hno
            rw [Hn.out] at this
            exact this.all
          have hcore := Ep.none_core ms l (fun t ht => by
            rw [HL.out] at ht
            have := Ep.toksAt_short _ _ t ht
            omega) hall (by rw [← Hn.out]; omega)
          have hex := hcore
          rw [HL.out] at hex
          have hB3 := Below.then HB2.out hB
          have KE := Lib.hid (lexpand_any (.slice ma N mc) (.slice la k lc) ds s ms wr (HG.out.later hB3) HO.out (HM2.out.below hB) (by rw [← HL.out]; exact HK.out.below hB) (by omega) 5000 _ hex)
          have HKS := Lib.hid hks3
          have HB3 := Lib.hid hB3
          have hfl := Ep.lined_length false l
          rw [← Hn.out] at hfl
          rw [← HL.out] at KE
          clear hrow hlin hno hB he hlin2 hks3 hall hcore hex hB3
          go_wp2_with fail
          refine KE.out.mono ?_
          rintro e3 w3 ⟨hB4, u, rfl, hu⟩
          have KS := fun wv (h : Ks wr wv (Ep.bareH (Ep.lined false l))) => sameK_any u wv _ w3 hu (h.below hB4) (by unfold Ep.bareH; rw [List.length_map]; omega)
          have HB4 := Lib.hid (Below.then HB3.out hB4)
          have KS2 := Lib.hid (KS _ HKS.out)
          clear hu hB4 KS
          go_wp2_with fail
          refine KS2.out.mono ?_
          rintro e4 w4 ⟨rfl, hB5⟩
          have HB5 := Lib.hid (Below.then HB4.out hB5)
          clear hB5
          go_wp2_with fail
          go_ret
          exact ⟨rfl, HB5.out⟩
    · have z1 : (500 : Int) < s.size := by omega
      go_wp2_with fail
      go_ret
      exact ⟨rfl, HB1.out⟩
end Go.Proofs.YtlepnafgcmeimaaGreatDoor

/- What is proved: append(x, l...) of tokens, whatever l is. -/
namespace Go.Proofs.YtlepnafgcmeimaaGreatDoor
open Go.RowKit Go.Shelf

theorem run_append_empty {P : Program} {w : World} (base : Nat) (t ty e : TypeId) (i : TypeInfo) (size : Nat) (ht : P.underlying t = some (.slice e)) (hi : P.info? e = some i)
    (v : Value) (n : Nat) (xs : List Value) (hown : w.ownsRow base e size v n xs) (ad : Option Addr) (c : Nat) :
    (Builtin.append_ #[t, t] ty #[v, .slice ad 0 c]).run P w = .ok v w := by
  cases ad with
  | none =>
    rcases hown.2 with ⟨rfl, rfl⟩ | ⟨g, cap, cur, rfl, _, _, hnc, _⟩
    · simp [Builtin.append_, run_underlying ht, sizeOf, typeInfo, hi, Builtin.lenOf, Builtin.firstCells]
    · simp [Builtin.append_, run_underlying ht, sizeOf, typeInfo, hi, Builtin.lenOf, Builtin.firstCells, hnc, storeCells]
  | some a =>
    rcases hown.2 with ⟨rfl, rfl⟩ | ⟨g, cap, cur, rfl, _, _, hnc, _⟩
    · simp [Builtin.append_, run_underlying ht, sizeOf, typeInfo, hi, Builtin.lenOf, Builtin.firstCells, loadCells, loadCellsFrom]
    · simp [Builtin.append_, run_underlying ht, sizeOf, typeInfo, hi, Builtin.lenOf, Builtin.firstCells, hnc, storeCells, loadCells, loadCellsFrom]

/-- The cells of tokens, one behind the other. -/
theorem ks_news {w : World} {g o' n c : Nat} {l2 : List K} (hu : Ks w (.slice (some ⟨g, o', none⟩) n c) l2) : ∀ j q, (ksCells l2)[j]? = some q → w.cell? ((⟨g, o', none⟩ : Addr).add j) = some q := by
  obtain ⟨ad', c', e, -, -, h3⟩ := hu
  injection e with e1 e2 e3
  subst e1
  intro j q hj
  have hlt := (List.getElem?_eq_some_iff.1 hj).1
  rw [ksCells_length] at hlt
  have hd : j / 6 < l2.length := by omega
  obtain ⟨t, ht⟩ : ∃ t, l2[j / 6]? = some t := ⟨_, List.getElem?_eq_getElem hd⟩
  obtain ⟨g', o'', e, k0, k1, k2, k3, k4, k5⟩ := h3 _ t ht
  injection e with e
  injection e with e1 e2
  subst e1 e2
  have hadd : (⟨g, o', none⟩ : Addr).add j = ⟨g, o' + j, none⟩ := by unfold Addr.add; split <;> simp_all
  rw [hadd]
  have key : ∀ m v, (kCells t)[m]? = some v → j = j / 6 * 6 + m → w.cell? ⟨g, o' + j / 6 * 6 + m, none⟩ = some v → w.cell? ⟨g, o' + j, none⟩ = some q := fun m v hm he hc => by
    have h4 := ksCells_get l2 (j / 6) t ht m v hm
    rw [← he, hj] at h4
    injection h4 with h4
    rw [h4, ← hc]
    congr 2
    omega
  have hm : j % 6 = 0 ∨ j % 6 = 1 ∨ j % 6 = 2 ∨ j % 6 = 3 ∨ j % 6 = 4 ∨ j % 6 = 5 := by omega
  rcases hm with hm | hm | hm | hm | hm | hm
  · exact key 0 _ rfl (by omega) k0
  · exact key 1 _ rfl (by omega) k1
  · exact key 2 _ rfl (by omega) k2
  · exact key 3 _ rfl (by omega) k3
  · exact key 4 _ rfl (by omega) k4
  · exact key 5 _ rfl (by omega) k5
set_option maxRecDepth 100000 in
theorem wpList_append_ks {w : World} {ops : Array Oper} {rest : List Oper} {o : Oper} {a : Act} {Q : Exit → Act → World → Prop} (hgd : o.guard = none) (s x : Operand)
    (ho : o.op = .call { callee := .builtin .append, args := #[s, x], argTypes := #[27, 27] }) (base : Nat) (v : Value) (n : Nat) (l : List K) (hs : a.eval s = v) (hown : w.ownsRow base 30 6 v n (ksCells l))
    (u : Value) (l2 : List K) (hx : a.eval x = u) (hu : Ks w u l2) (hn : n + l2.length ≤ 1000000) (hbase : base ≤ w.heap.size)
    (h : ∀ v' w', w'.ownsRow base 30 6 v' (n + l2.length) (ksCells (l ++ l2)) → w.grownBy w' v.ownBlock → wpList Tryz.prog ops Q rest (a.put o.dst v') w') : wpList Tryz.prog ops Q (o :: rest) a w := by
  obtain ⟨i0, hi, hz0, hz1, hz2⟩ := info_parts infoTok
  obtain ⟨ad, c, rfl, h1, h2, h3⟩ := hu
  rcases Nat.eq_zero_or_pos l2.length with h0 | hpos
  · obtain rfl : l2 = [] := List.length_eq_zero_iff.1 h0
    refine wpList_plain hgd fun K hK => ?_
    have hrun := run_append_empty (P := Tryz.prog) (w := w) base 27 o.type 30 i0 6 Tryz.underlying27 hi v n (ksCells l) hown ad c
    unfold Oper.wp
    simp [execOp, ho, resolve, invoke, builtin, hs, hx, hrun, Result.andThen]
    exact hK _ _ (h v w (by rw [List.append_nil]; exact hown) ⟨rfl, rfl, rfl, Nat.le_refl _, fun _ _ _ => rfl⟩)
  · obtain ⟨g, o', rfl, c0⟩ := h3 0 _ (List.getElem?_eq_getElem hpos)
    refine wpList_append_lies w hgd s x 27 ho base 30 i0 _ 6 56 Tryz.underlying27 hi hz0 hz1 hz2 rfl (by decide) v n (ksCells l) hs hown ⟨g, o', none⟩ l2.length c (ksCells l2) hx (ksCells_length l2) ?_ (ksCells_one l2) hpos (by unfold maxLen; omega) (by omega) hbase w.heap.size rfl ?_
    · exact ks_news ⟨_, c, rfl, h1, h2, h3⟩
    · intro g2 cap w' hr hg _ _
      rw [← ksCells_append] at hr
      exact h _ _ hr hg
theorem row_emptyK (w : World) : (w.alloc (.cells #[] 30)).ownsRow w.heap.size 30 6 (.slice (some ⟨w.heap.size, 0, none⟩) 0 0) 0 (ksCells []) := World.ownsRow_made w #[] 0 (Nat.le_refl _) (Nat.zero_le _) rfl
end Go.Proofs.YtlepnafgcmeimaaGreatDoor

/- What is proved: no name is replaced within what came of it (the law ExpandSelf), in whatever memory. -/
namespace Go.Proofs.YtlepnafgcmeimaaGreatDoor
open Go.RowKit Go.Shelf
open Mx (M HH)

theorem ksCells_set : ∀ (l : List K) (i : Nat) (t : K) (b : Bool), l[i]? = some t → (ksCells l).set (i * 6 + 5) (.bool b) = ksCells (l.set i (Ep.blK t b))
  | [], _, _, _, h => by simp at h
  | a :: r, 0, t, b, h => by
    simp only [List.getElem?_cons_zero, Option.some.injEq] at h
    subst h
    rfl
  | a :: r, i + 1, t, b, h => by
    simp only [List.getElem?_cons_succ] at h
    have ih := ksCells_set r i t b h
    show (kCells a ++ ksCells r).set ((i + 1) * 6 + 5) (.bool b) = kCells a ++ ksCells (r.set i (Ep.blK t b))
    rw [List.set_append_right _ _ (by show 6 ≤ _; omega), show (i + 1) * 6 + 5 - (kCells a).length = i * 6 + 5 by show _ - 6 = _; omega, ih]
/-- The first one without Blank. -/
def noBl : List K → List K
  | [] => []
  | t :: r => Ep.blK t false :: r
theorem noBl_len (l : List K) : (noBl l).length = l.length := by cases l <;> rfl
/-- What the law asks of a body. -/
def BodyOk (nl : Nat) (l : List K) (k : Nat) : Prop := ∀ i t, i < k → l[i]? = some t → t.kind ≠ 7 ∧ (i ≠ nl → t.kind ≠ 1) ∧ t.text ≠ HH
theorem noBl_mem {nl : Nat} {l : List K} {nm : K} (h : BodyOk nl l l.length) (hn : l[nl]? = some nm) : ∀ t ∈ noBl l, (t.kind = 1 → t.text = nm.text) ∧ t.text ≠ HH ∧ ∃ u ∈ l, u.text = t.text := fun t ht => by
  obtain ⟨i, hi⟩ := List.mem_iff_getElem?.1 ht
  have key : ∃ u, l[i]? = some u ∧ t.kind = u.kind ∧ t.text = u.text := by
    cases l with
    | nil => simp [noBl] at hi
    | cons a r =>
      cases i with
      | zero => simp only [noBl, List.getElem?_cons_zero, Option.some.injEq] at hi; exact ⟨a, rfl, by rw [← hi]; exact ⟨rfl, rfl⟩⟩
      | succ i => simp only [noBl, List.getElem?_cons_succ] at hi; exact ⟨t, by rw [List.getElem?_cons_succ]; exact hi, rfl, rfl⟩
  obtain ⟨u, hu, e1, e2⟩ := key
  obtain ⟨h1, h2, h3⟩ := h i u (List.getElem?_eq_some_iff.1 hu).1 hu
  refine ⟨fun hk => ?_, by rw [e2]; exact h3, u, List.mem_of_getElem? hu, e2.symm⟩
  by_cases hi' : i = nl
  · subst hi'
    rw [hn] at hu
    injection hu with hu
    rw [e2, hu]
  · exact absurd (e1 ▸ hk) (h2 hi')
theorem BodyOk.snoc {nl k : Nat} {l : List K} {t : K} (h : BodyOk nl l k) (ht : l[k]? = some t) (h7 : t.kind ≠ 7) (h1 : k ≠ nl → t.kind ≠ 1) (hh : t.text ≠ HH) : BodyOk nl l (k + 1) := fun i u hi hu => by
  rcases Nat.lt_or_ge i k with h' | h'
  · exact h i u h' hu
  · obtain rfl : i = k := by omega
    rw [ht] at hu
    injection hu with hu
    subst hu
    exact ⟨h7, h1, hh⟩
theorem self_run (name : ByteArray) (A B : List K) (nmT : K) (hnm : nmT = ⟨1, name, 0, 0, 0, true⟩) (h : BodyOk A.length (A ++ nmT :: B) (A ++ nmT :: B).length) (hA : A.length ≤ 100) (hB : B.length ≤ 100) (sA : ∀ t ∈ A, t.text.size ≤ 100) (sB : ∀ t ∈ B, t.text.size ≤ 100) (hn : name.size ≤ 50) :
    ∃ X y, Ep.expand [⟨name, false, [], false, noBl (A ++ nmT :: B)⟩] 5000 [⟨1, name, 0, 0, 0, false⟩] = some (.ok (X, y)) ∧ Ep.bareH y = noBl (A ++ nmT :: B) := by
  have hm := noBl_mem h (nm := nmT) (by rw [List.getElem?_append_right (Nat.le_refl _), Nat.sub_self]; rfl)
  have hl : (noBl (A ++ nmT :: B)).length ≤ 201 := by rw [noBl_len, List.length_append, List.length_cons]; omega
  have hsz : ∀ u ∈ A ++ nmT :: B, u.text.size ≤ 100 := fun u hu => by
    rcases List.mem_append.1 hu with hu | hu
    · exact sA u hu
    · rcases List.mem_cons.1 hu with rfl | hu
      · rw [hnm]; show name.size ≤ 100; omega
      · exact sB u hu
  refine ⟨_, _, Ep.self_core ⟨name, false, [], false, noBl (A ++ nmT :: B)⟩ ⟨1, name, 0, 0, 0, false⟩ rfl rfl rfl rfl (fun t ht => ?_) (by show (noBl (A ++ nmT :: B)).length ≤ 3000; omega) (fun t ht hk => ?_) (fun t ht => ?_) (by show name.size ≤ _; omega) (fun t ht => ?_), ?_⟩
  · unfold Mx.isP
    rw [decide_eq_false (hm t ht).2.1, Bool.and_false]
  · rw [(hm t ht).1 hk, hnm]
  · obtain ⟨u, hu, e⟩ := (hm t ht).2.2
    have := hsz u hu
    rw [← e]
    omega
  · have ht : (noBl (A ++ nmT :: B)).head? = some t := ht
    cases hAB : A ++ nmT :: B with
    | nil => rw [hAB] at ht; cases ht
    | cons a r => rw [hAB] at ht; simp only [noBl, List.head?_cons, Option.some.injEq] at ht; rw [← ht]; rfl
  · show (List.map _ _).map _ = _
    rw [List.map_map]
    exact List.map_id _
theorem ks_one {W : World} {B : Nat} {t : K} {ty : TypeId} (h : W.heap[B]? = some (.cells #[.int .i64 t.kind, .string t.text, .int .i64 t.file, .int .i64 t.fr, .int .i64 t.en, .bool t.bl] ty (0, 0))) : Ks W (.slice (some ⟨B, 0, none⟩) 1 1) [t] := by
  refine ⟨_, _, rfl, Nat.le_refl _, by decide, fun i s hs => ?_⟩
  match i, hs with
  | 0, hs => simp only [List.getElem?_cons_zero, Option.some.injEq] at hs; subst hs; exact ⟨B, 0, rfl, (Lib.cell_of_heap h 0).trans rfl, (Lib.cell_of_heap h 1).trans rfl, (Lib.cell_of_heap h 2).trans rfl, (Lib.cell_of_heap h 3).trans rfl, (Lib.cell_of_heap h 4).trans rfl, (Lib.cell_of_heap h 5).trans rfl⟩
  | _ + 1, hs => simp at hs
theorem msv_one {W : World} {B : Nat} {m : M} {pv bv : Value} {ty : TypeId} (h : W.heap[B]? = some (.cells #[.string m.name, .bool m.fn, pv, .bool m.va, bv] ty (0, 0))) (hm : MacV W (.agg #[.string m.name, .bool m.fn, pv, .bool m.va, bv]) m) : MsV W (.slice (some ⟨B, 0, none⟩) 1 1) [m] := by
  refine ⟨_, _, rfl, Nat.le_refl _, by decide, fun i s hs => ?_⟩
  match i, hs with
  | 0, hs => simp only [List.getElem?_cons_zero, Option.some.injEq] at hs; subst hs; exact ⟨B, 0, rfl, pv, bv, (Lib.cell_of_heap h 0).trans rfl, (Lib.cell_of_heap h 1).trans rfl, (Lib.cell_of_heap h 2).trans rfl, (Lib.cell_of_heap h 3).trans rfl, (Lib.cell_of_heap h 4).trans rfl, hm⟩
  | _ + 1, hs => simp at hs
end Go.Proofs.YtlepnafgcmeimaaGreatDoor

/- What is proved: a name that stands for tokens without names gives these (the law ExpandPlain): its end. -/
namespace Go.Proofs.YtlepnafgcmeimaaGreatDoor
open Go.RowKit Go.Shelf
open Mx (M HH)

noncomputable def plBody8 : Code := Tryz.f4.body.getD .skip
def bodyT8 : List K → List K
  | [] => []
  | t :: r => Ep.blK t true :: r
theorem bodyT8_len (l : List K) : (bodyT8 l).length = l.length := by cases l <;> rfl
/-- What has come when so many are passed. -/
def wantAt (A bd B : List K) (i : Nat) : List K := if i ≤ A.length then A.take i else A ++ bodyT8 bd ++ B.take (i - A.length - 1)
theorem wantAt_len (A bd B : List K) (i : Nat) (_ : i ≤ A.length + 1 + B.length) : (wantAt A bd B i).length ≤ i + bd.length := by
  unfold wantAt
  split
  · rw [List.length_take]; omega
  · rw [List.length_append, List.length_append, bodyT8_len, List.length_take]; omega
theorem wantAt_step (A bd B : List K) (nm : K) (i : Nat) (t : K) (h : (A ++ nm :: B)[i]? = some t) (hi : i ≠ A.length) : wantAt A bd B (i + 1) = wantAt A bd B i ++ [t] := by
  unfold wantAt
  by_cases h1 : i < A.length
  · rw [if_pos (by omega), if_pos (by omega)]
    rw [List.getElem?_append_left h1] at h
    rw [List.take_succ_eq_append_getElem h1, (List.getElem?_eq_some_iff.1 h).2]
  · rw [if_neg (by omega), if_neg (by omega)]
    rw [List.getElem?_append_right (by omega), show i - A.length = (i - A.length - 1) + 1 by omega, List.getElem?_cons_succ] at h
    have h2 := (List.getElem?_eq_some_iff.1 h).1
    rw [show i + 1 - A.length - 1 = (i - A.length - 1) + 1 by omega, List.take_succ_eq_append_getElem h2, (List.getElem?_eq_some_iff.1 h).2, ← List.append_assoc]
theorem wantAt_mid (A bd B : List K) : wantAt A bd B (A.length + 1) = wantAt A bd B A.length ++ bodyT8 bd := by
  unfold wantAt
  rw [if_neg (by omega), if_pos (Nat.le_refl _), List.take_length, show A.length + 1 - A.length - 1 = 0 by omega, List.take_zero, List.append_nil]
theorem wantAt_end (A bd B : List K) : wantAt A bd B (A.length + 1 + B.length) = A ++ bodyT8 bd ++ B := by
  unfold wantAt
  rw [if_neg (by omega), show A.length + 1 + B.length - A.length - 1 = B.length by omega, List.take_length]
/-- What the law asks of all tokens. -/
def AllOk (nl : Nat) (l : List K) (k : Nat) : Prop := ∀ i t, i < k → l[i]? = some t → t.kind ≠ 7 ∧ (i ≠ nl → t.kind ≠ 1)
theorem AllOk.snoc {nl k : Nat} {l : List K} {t : K} (h : AllOk nl l k) (ht : l[k]? = some t) (h7 : t.kind ≠ 7) (h1 : k ≠ nl → t.kind ≠ 1) : AllOk nl l (k + 1) := fun i u hi hu => by
  rcases Nat.lt_or_ge i k with h' | h'
  · exact h i u h' hu
  · obtain rfl : i = k := by omega
    rw [ht] at hu
    injection hu with hu
    subst hu
    exact ⟨h7, h1⟩
theorem AllOk.parts {A B : List K} {nm : K} (h : AllOk A.length (A ++ nm :: B) (A.length + 1 + B.length)) : (∀ t ∈ A, t.kind ≠ 1 ∧ t.kind ≠ 7) ∧ ∀ t ∈ B, t.kind ≠ 1 ∧ t.kind ≠ 7 := by
  refine ⟨fun t ht => ?_, fun t ht => ?_⟩
  · obtain ⟨i, hi⟩ := List.mem_iff_getElem?.1 ht
    have hlt := (List.getElem?_eq_some_iff.1 hi).1
    have := h i t (by omega) (by rw [List.getElem?_append_left hlt]; exact hi)
    exact ⟨this.2 (by omega), this.1⟩
  · obtain ⟨i, hi⟩ := List.mem_iff_getElem?.1 ht
    have hlt := (List.getElem?_eq_some_iff.1 hi).1
    have := h (A.length + 1 + i) t (by omega) (by rw [List.getElem?_append_right (by omega), show A.length + 1 + i - A.length = i + 1 by omega, List.getElem?_cons_succ]; exact hi)
    exact ⟨this.2 (by omega), this.1⟩
/-- What stands where the loops begin. -/
structure PlS (W0 : World) (mg mo mc na nb : Nat) (ad bd' : Option Addr) (ac bc : Nat) (allv : Value) (m : M) (A B : List K) (nm : K) : Prop where
  ms : MsV W0 (.slice (some ⟨mg, mo, none⟩) 1 mc) [m]
  all : Ks W0 allv (A ++ nm :: B)
  enm : nm = ⟨1, m.name, 0, 0, 0, true⟩
  ena : na = A.length
  enb : nb = B.length
  la : na ≤ 200
  lb : nb ≤ 200
  sa : ∀ t ∈ A, t.text.size ≤ 200
  sb : ∀ t ∈ B, t.text.size ≤ 200
  sm : Ep.MSmall m
  sn : m.name.size ≤ 1000000
  fn : m.fn = false
  bk : ∀ t ∈ m.body, t.kind ≠ 1 ∧ t.text ≠ HH
theorem PlS.run {W0 : World} {mg mo mc na nb : Nat} {ad bd' : Option Addr} {ac bc : Nat} {allv : Value} {m : M} {A B : List K} {nm : K} (h : PlS W0 mg mo mc na nb ad bd' ac bc allv m A B nm) (hok : AllOk na (A ++ nm :: B) (na + 1 + nb)) :
    ∃ X y, Ep.expand [m] 5000 (A ++ nm :: B) = some (.ok (X, y)) ∧ Ep.bareH y = Ep.wantL A m.body B := by
  have hp := (show AllOk A.length (A ++ nm :: B) (A.length + 1 + B.length) by rw [← h.ena, ← h.enb]; exact hok).parts
  have h1 := h.la
  have h2 := h.lb
  have h3 := h.ena
  have h4 := h.enb
  have h5 := h.sm.bl
  exact Ep.plain_core m A B nm (by rw [h.enm]) (by rw [h.enm]) (by rw [h.enm]) h.fn (fun t ht => by
      unfold Mx.isP
      rw [decide_eq_false (h.bk t ht).2, Bool.and_false]) (fun t ht => (h.bk t ht).1) hp.1 hp.2 (by omega)
    (fun t ht => Nat.le_trans (h.sa t ht) (by omega)) (fun t ht => Nat.le_trans (h.sb t ht) (by omega)) (fun t ht => Nat.le_trans (h.sm.bsz t ht) (by omega)) (by rw [h.enm]; exact h.sn)

theorem PlS.body {W0 : World} {mg mo mc na nb : Nat} {ad bd' : Option Addr} {ac bc : Nat} {allv : Value} {m : M} {A B : List K} {nm : K} (h : PlS W0 mg mo mc na nb ad bd' ac bc allv m A B nm) :
    ∃ ba bcap, W0.cell? ⟨mg, mo, none⟩ = some (.string m.name) ∧ W0.cell? ⟨mg, mo + 1, none⟩ = some (.bool m.fn) ∧ W0.cell? ⟨mg, mo + 4, none⟩ = some (.slice ba m.body.length bcap) ∧ Ks W0 (.slice ba m.body.length bcap) m.body := by
  obtain ⟨ad1, cap1, e, -, -, h3⟩ := h.ms
  obtain ⟨g, o, e2, pv, bv, c0, c1, c2, c3, c4, hm⟩ := h3 0 m rfl
  injection e with e3 e4 e5
  rw [← e3] at e2
  injection e2 with e2
  injection e2 with e6 e7
  subst e6 e7
  simp only [Nat.zero_mul, Nat.add_zero] at c0 c1 c4
  obtain ⟨pv', bv', epb, -, hk⟩ := hm
  simp only [Value.agg.injEq] at epb
  simp at epb
  obtain ⟨-, rfl⟩ := epb
  obtain ⟨ba, bcap, rfl, -⟩ := id hk
  exact ⟨ba, bcap, c0, c1, c4, hk⟩
theorem wantL_eq (A B bd : List K) (h : bd ≠ [] ∨ B = []) : A ++ bodyT8 bd ++ B = Ep.wantL A bd B := by
  unfold Ep.wantL
  cases bd with
  | nil =>
    rcases h with h | rfl
    · exact absurd rfl h
    · simp [bodyT8]
  | cons t r => simp [bodyT8]
theorem wantL_set (A B : List K) (t : K) (h : B[0]? = some t) : (A ++ bodyT8 [] ++ B).set A.length (Ep.blK t true) = Ep.wantL A [] B := by
  cases B with
  | nil => simp at h
  | cons a r =>
    simp only [List.getElem?_cons_zero, Option.some.injEq] at h
    subst h
    simp [bodyT8, Ep.wantL]
end Go.Proofs.YtlepnafgcmeimaaGreatDoor

/- What is proved: a name that stands for tokens without names gives these (the law ExpandPlain): its end. -/
namespace Go.Proofs.YtlepnafgcmeimaaGreatDoor
open Go.RowKit Go.Shelf
open Mx (M HH)

set_option maxRecDepth 100000 in
set_option maxHeartbeats 8000000 in
theorem plain_end12 (w W0 W : World) (mg mo mc na nb : Nat) (ad bd' : Option Addr) (ac bc : Nat) (m : M) (A B : List K) (nm : K) (aa : Option Addr) (N ca : Nat) (wv : Value) (c0 c1 c2 c3 c4 c5 c6 c9 c10 c11 c12 c15 c16 c17 c18 c19 c20 c21 c22 c23 c24 c25 c26 c27 c28 c29 c30 c31 c32 c33 c34 c35 c36 c37 c38 c39 c40 c41 c42 c43 c44 c45 c46 c47 c48 c49 c50 c51 c52 c53 c54 c55 c56 c57 c58 c59 c60 c61 c62 c63 c64 c65 c66 c67 c68 c69 c70 c71 c72 c73 c74 c75 c76 c77 c78 c79 c80 c81 c82 c83 c84 c85 c86 c87 c88 c89 c90 c91 c92 c93 c94 c95 c96 c97 c98 c99 c100 c101 c102 c103 c104 c105 c106 c107 c108 c109 c110 c111 c112 c113 c114 c115 c116 c117 c118 c119 c120 c121 c122 c123 c124 c125 c126 c127 c128 c129 c130 c131 c132 c133 c134 c135 c136 c137 c138 c139 c140 c141 c142 c143 c144 c145 c146 c147 c148 c149 c150 c151 c152 c153 c154 c155 c156 c157 c158 c159 c160 c161 c162 c163 c164 c165 c166 c167 c168 c169 c170 c171 c172 c173 c174 c175 c176 c177 c178 c179 c180 c181 c182 c183 c184 c185 c186 c187 c188 c189 : Value)
    (hS : PlS W0 mg mo mc na nb ad bd' ac bc (.slice aa N ca) m A B nm) (hG : Glob w) (hw : Below w.heap.size w W0) (hB : Below W0.heap.size W0 W) (hok : AllOk na (A ++ nm :: B) (na + 1 + nb))
    (hrow : Ks W wv (Ep.wantL A m.body B)) :
    Code.wp Tryz.prog (secs 12 plBody8) (bodyPost Tryz.prog Tryz.f4 (TruePost w)) ⟨#[c0, c1, c2, c3, c4, c5, c6, .bool true, .slice (some ⟨mg, mo, none⟩) 1 mc, c9, c10, c11, c12, .slice aa N ca, wv, c15, c16, c17, c18, c19, c20, c21, c22, c23, c24, c25, c26, c27, c28, c29, c30, c31, c32, c33, c34, c35, c36, c37, c38, c39, c40, c41, c42, c43, c44, c45, c46, c47, c48, c49, c50, c51, c52, c53, c54, c55, c56, c57, c58, c59, c60, c61, c62, c63, c64, c65, c66, c67, c68, c69, c70, c71, c72, c73, c74, c75, c76, c77, c78, c79, c80, c81, c82, c83, c84, c85, c86, c87, c88, c89, c90, c91, c92, c93, c94, c95, c96, c97, c98, c99, c100, c101, c102, c103, c104, c105, c106, c107, c108, c109, c110, c111, c112, c113, c114, c115, c116, c117, c118, c119, c120, c121, c122, c123, c124, c125, c126, c127, c128, c129, c130, c131, c132, c133, c134, c135, c136, c137, c138, c139, c140, c141, c142, c143, c144, c145, c146, c147, c148, c149, c150, c151, c152, c153, c154, c155, c156, c157, c158, c159, c160, c161, c162, c163, c164, c165, c166, c167, c168, c169, c170, c171, c172, c173, c174, c175, c176, c177, c178, c179, c180, c181, c182, c183, c184, c185, c186, c187, c188, c189], []⟩ W := by
  obtain ⟨X, y, hrun, hy⟩ := hS.run hok
  have hBf := Below.then hw hB
  have h1 := hS.la
  have h2 := hS.lb
  have h3 := hS.ena
  have h4 := hS.enb
  have h5 := hS.sm.bl
  have KE := Lib.hid (expand_any (.slice (some ⟨mg, mo, none⟩) 1 mc) (.slice aa N ca) [m] (A ++ nm :: B) W (hS.ms.below hB) (hS.all.below hB) (hG.later hBf) (fun x hx => by rw [List.mem_singleton.1 hx]; exact hS.sm.ok) (by simp) (by simp; omega) 5000 _ hrun)
  have HBF := Lib.hid hBf
  have HY := Lib.hid hy
  have HROW := Lib.hid hrow
  have hwl : (Ep.wantL A m.body B).length ≤ 1000000000 := by
    unfold Ep.wantL
    rw [List.length_append]
    cases hb : m.body with
    | nil =>
      cases B with
      | nil => simp; omega
      | cons t r => simp only [List.length_cons] at h4 ⊢; omega
    | cons t r => rw [hb] at h5; simp only [List.length_cons, List.length_append] at h5 ⊢; omega
  clear hS hG hw hB hok hrow hrun hy hBf
  refine wp_sec 12 plBody8 rfl ?_
  conv => arg 2; whnf
  go_wp2_with fail
  refine KE.out.mono ?_
  rintro e8 w8 ⟨hB10, u, rfl, hu⟩
  have HB10 := Lib.hid (Below.then HBF.out hB10)
  have HSM := Lib.hid (sameK_any u wv (Ep.wantL A m.body B) w8 (by rw [← HY.out]; exact hu) (HROW.out.below hB10) hwl)
  clear hu hB10
  go_wp2_with fail
  refine wp_sec 13 plBody8 rfl ?_
  conv => arg 2; whnf
  go_wp2_with fail
  refine HSM.out.mono ?_
  rintro e9 w9 ⟨rfl, hB11⟩
  have HB11 := Lib.hid (Below.then HB10.out hB11)
  clear hB11
  go_wp2_with fail
  conv => arg 2; whnf
  go_wp2_with fail
  go_ret
  exact ⟨rfl, HB11.out⟩
end Go.Proofs.YtlepnafgcmeimaaGreatDoor

/- What is proved: a name that stands for tokens without names gives these (the law ExpandPlain): the Blank behind nothing. -/
namespace Go.Proofs.YtlepnafgcmeimaaGreatDoor
open Go.RowKit Go.Shelf
open Mx (M HH)

set_option maxRecDepth 100000 in
set_option maxHeartbeats 8000000 in
theorem plain_end11 (w W0 W : World) (mg mo mc na nb : Nat) (ad bd' : Option Addr) (ac bc : Nat) (m : M) (A B : List K) (nm : K) (aa : Option Addr) (N ca : Nat) (wv : Value) (c0 c1 c2 c3 c4 c5 c6 c9 c12 c15 c16 c17 c18 c19 c20 c21 c22 c23 c24 c25 c26 c27 c28 c29 c30 c31 c32 c33 c34 c35 c36 c37 c38 c39 c40 c41 c42 c43 c44 c45 c46 c47 c48 c49 c50 c51 c52 c53 c54 c55 c56 c57 c58 c59 c60 c61 c62 c63 c64 c65 c66 c67 c68 c69 c70 c71 c72 c73 c74 c75 c76 c77 c78 c79 c80 c81 c82 c83 c84 c85 c86 c87 c88 c89 c90 c91 c92 c93 c94 c95 c96 c97 c98 c99 c100 c101 c102 c103 c104 c105 c106 c107 c108 c109 c110 c111 c112 c113 c114 c115 c116 c117 c118 c119 c120 c121 c122 c123 c124 c125 c126 c127 c128 c129 c130 c131 c132 c133 c134 c135 c136 c137 c138 c139 c140 c141 c142 c143 c144 c145 c146 c147 c148 c149 c150 c151 c152 c153 c154 c155 c156 c157 c158 c159 c160 c161 c162 c163 c164 c165 c166 c167 c168 c169 c170 c171 c172 c173 c174 c175 c176 c177 c178 c179 c180 c181 c182 c183 c184 c185 c186 c187 c188 c189 : Value)
    (hS : PlS W0 mg mo mc na nb ad bd' ac bc (.slice aa N ca) m A B nm) (hG : Glob w) (hw : Below w.heap.size w W0) (hB : Below W0.heap.size W0 W) (hok : AllOk na (A ++ nm :: B) (na + 1 + nb))
    (hrow : W.ownsRow W0.heap.size 30 6 wv (A ++ bodyT8 m.body ++ B).length (ksCells (A ++ bodyT8 m.body ++ B))) :
    Code.wp Tryz.prog (secs 11 plBody8) (bodyPost Tryz.prog Tryz.f4 (TruePost w)) ⟨#[c0, c1, c2, c3, c4, c5, c6, .bool true, .slice (some ⟨mg, mo, none⟩) 1 mc, c9, .slice ad na ac, .slice bd' nb bc, c12, .slice aa N ca, wv, c15, c16, c17, c18, c19, c20, c21, c22, c23, c24, c25, c26, c27, c28, c29, c30, c31, c32, c33, c34, c35, c36, c37, c38, c39, c40, c41, c42, c43, c44, c45, c46, c47, c48, c49, c50, c51, c52, c53, c54, c55, c56, c57, c58, c59, c60, c61, c62, c63, c64, c65, c66, c67, c68, c69, c70, c71, c72, c73, c74, c75, c76, c77, c78, c79, c80, c81, c82, c83, c84, c85, c86, c87, c88, c89, c90, c91, c92, c93, c94, c95, c96, c97, c98, c99, c100, c101, c102, c103, c104, c105, c106, c107, c108, c109, c110, c111, c112, c113, c114, c115, c116, c117, c118, c119, c120, c121, c122, c123, c124, c125, c126, c127, c128, c129, c130, c131, c132, c133, c134, c135, c136, c137, c138, c139, c140, c141, c142, c143, c144, c145, c146, c147, c148, c149, c150, c151, c152, c153, c154, c155, c156, c157, c158, c159, c160, c161, c162, c163, c164, c165, c166, c167, c168, c169, c170, c171, c172, c173, c174, c175, c176, c177, c178, c179, c180, c181, c182, c183, c184, c185, c186, c187, c188, c189], []⟩ W := by
  obtain ⟨ba, bcap, -, -, b4, -⟩ := hS.body
  have c4 := (hB.cell (p := ⟨mg, mo + 4, none⟩) (lt_of_cell b4)).trans b4
  have h1 := hS.la
  have h2 := hS.lb
  have h3 := hS.ena
  have h4 := hS.enb
  by_cases he : m.body = [] ∧ 0 < nb
  · obtain ⟨e1, e2⟩ := he
    have z1 : m.body.length = 0 := by rw [e1]; rfl
    have z2 : (0 : Int) < nb := by omega
    rw [z1] at c4
    obtain ⟨t0, ht0⟩ : ∃ t, B[0]? = some t := ⟨_, List.getElem?_eq_getElem (by omega)⟩
    rw [e1] at hrow
    obtain ⟨L, hL⟩ : ∃ L, L = A ++ bodyT8 [] ++ B := ⟨_, rfl⟩
    have hLt : L[na]? = some t0 := by
      rw [hL, h3]
      simp only [bodyT8, List.append_nil]
      rw [List.getElem?_append_right (Nat.le_refl _), Nat.sub_self]
      exact ht0
    have hset := wantL_set A B t0 ht0
    rw [← hL, ← h3] at hset
    rw [← hL] at hrow
    obtain ⟨n, hn⟩ : ∃ n, n = L.length := ⟨_, rfl⟩
    have hna : na < n := by rw [hn]; exact (List.getElem?_eq_some_iff.1 hLt).1
    rw [← hn] at hrow
    obtain ⟨g, cap, cs, rfl, hbase, hbk⟩ : ∃ g cap cs, wv = .slice (some ⟨g, 0, none⟩) n cap ∧ W0.heap.size ≤ g ∧ W.heap[g]? = some (.cells cs 30 (0, 0)) := by
      rcases hrow.2 with ⟨_, h0⟩ | ⟨g, cap, cur, h', hb1, hb, _⟩
      · omega
      · exact ⟨g, cap, cur, h', hb1, hb⟩
    have hks : Ks W (.slice (some ⟨g, 0, none⟩) n cap) L := Ks.of_row (by rw [← hn]; exact hrow)
    have hat := ks_at hks hLt
    rw [Nat.zero_add] at hat
    have d5 : W.cell? ⟨g, na * 6 + 5, none⟩ = some (.bool t0.bl) := hat.2.2.2.2.2
    have hf5 : W.frozen? ⟨g, na * 6 + 5, none⟩ = false := by simp [World.frozen?, hbk]
    have hst := (hrow.stored (na * 6 + 5) (.bool true)).1
    rw [ksCells_set L na t0 true hLt, hset] at hst
    have hlen : (Ep.wantL A [] B).length = n := by rw [← hset, List.length_set, hn]
    have hkw : Ks (W.setCell ⟨g, na * 6 + 5, none⟩ (.bool true)) (.slice (some ⟨g, 0, none⟩) n cap) (Ep.wantL A m.body B) := by
      rw [e1]
      exact Ks.of_row (by rw [hlen]; exact hst)
    have hB2 := hB.setCell (p := ⟨g, na * 6 + 5, none⟩) hbase (.bool true)
    have z3 : (na : Int) < n := by omega
    have z4 : (0 : Int) ≤ na := by omega
    have HKW := Lib.hid hkw
    have HB2 := Lib.hid hB2
    have HS := Lib.hid hS
    have HG := Lib.hid hG
    have HW := Lib.hid hw
    have HOK := Lib.hid hok
    clear hS hG hw hB hok hrow hks hat hst hkw hB2 hL hLt hset ht0 hlen hn b4 e1 z1 h3 h4 hbk
    refine wp_sec 11 plBody8 rfl ?_
    conv => arg 2; whnf
    go_wp2_with fail
    exact plain_end12 w W0 _ mg mo mc na nb ad bd' ac bc m A B nm aa N ca _ _ _ _ _ _ _ _ _ _ _ _ _ _ _ _ _ _ _ _ _ _ _ _ _ _ _ _ _ _ _ _ _ _ _ _ _ _ _ _ _ _ _ _ _ _ _ _ _ _ _ _ _ _ _ _ _ _ _ _ _ _ _ _ _ _ _ _ _ _ _ _ _ _ _ _ _ _ _ _ _ _ _ _ _ _ _ _ _ _ _ _ _ _ _ _ _ _ _ _ _ _ _ _ _ _ _ _ _ _ _ _ _ _ _ _ _ _ _ _ _ _ _ _ _ _ _ _ _ _ _ _ _ _ _ _ _ _ _ _ _ _ _ _ _ _ _ _ _ _ _ _ _ _ _ _ _ _ _ _ _ _ _ _ _ _ _ _ _ _ _ _ _ _ _ _ _ _ _ _ _ _ _ _ _ _ _ HS.out HG.out HW.out HB2.out HOK.out HKW.out
  · have hwl := wantL_eq A B m.body (by
      by_cases e : m.body = []
      · right
        rw [← List.length_eq_zero_iff, ← h4]
        by_cases e2 : 0 < nb
        · exact absurd ⟨e, e2⟩ he
        · omega
      · left; exact e)
    have hkw : Ks W wv (Ep.wantL A m.body B) := by rw [← hwl]; exact Ks.of_row hrow
    obtain ⟨n, hn⟩ : ∃ n, n = m.body.length := ⟨_, rfl⟩
    rw [← hn] at c4
    have hor : (0 < n) ∨ (n = 0 ∧ ¬ 0 < nb) := by
      by_cases e : n = 0
      · right; exact ⟨e, fun h => he ⟨List.length_eq_zero_iff.1 (by omega), h⟩⟩
      · left; omega
    have HKW := Lib.hid hkw
    have HB2 := Lib.hid hB
    have HS := Lib.hid hS
    have HG := Lib.hid hG
    have HW := Lib.hid hw
    have HOK := Lib.hid hok
    clear hS hG hw hB hok hrow hkw hwl hn b4 he h3 h4
    rcases hor with h | ⟨rfl, h⟩
    · have z1 : ((n : Int) == 0) = false := by simp; omega
      refine wp_sec 11 plBody8 rfl ?_
      conv => arg 2; whnf
      go_wp2_with fail
      exact plain_end12 w W0 _ mg mo mc na nb ad bd' ac bc m A B nm aa N ca _ _ _ _ _ _ _ _ _ _ _ _ _ _ _ _ _ _ _ _ _ _ _ _ _ _ _ _ _ _ _ _ _ _ _ _ _ _ _ _ _ _ _ _ _ _ _ _ _ _ _ _ _ _ _ _ _ _ _ _ _ _ _ _ _ _ _ _ _ _ _ _ _ _ _ _ _ _ _ _ _ _ _ _ _ _ _ _ _ _ _ _ _ _ _ _ _ _ _ _ _ _ _ _ _ _ _ _ _ _ _ _ _ _ _ _ _ _ _ _ _ _ _ _ _ _ _ _ _ _ _ _ _ _ _ _ _ _ _ _ _ _ _ _ _ _ _ _ _ _ _ _ _ _ _ _ _ _ _ _ _ _ _ _ _ _ _ _ _ _ _ _ _ _ _ _ _ _ _ _ _ _ _ _ _ _ _ HS.out HG.out HW.out HB2.out HOK.out HKW.out
    · have z1 : ¬ (0 : Int) < nb := by omega
      refine wp_sec 11 plBody8 rfl ?_
      conv => arg 2; whnf
      go_wp2_with fail
      exact plain_end12 w W0 _ mg mo mc na nb ad bd' ac bc m A B nm aa N ca _ _ _ _ _ _ _ _ _ _ _ _ _ _ _ _ _ _ _ _ _ _ _ _ _ _ _ _ _ _ _ _ _ _ _ _ _ _ _ _ _ _ _ _ _ _ _ _ _ _ _ _ _ _ _ _ _ _ _ _ _ _ _ _ _ _ _ _ _ _ _ _ _ _ _ _ _ _ _ _ _ _ _ _ _ _ _ _ _ _ _ _ _ _ _ _ _ _ _ _ _ _ _ _ _ _ _ _ _ _ _ _ _ _ _ _ _ _ _ _ _ _ _ _ _ _ _ _ _ _ _ _ _ _ _ _ _ _ _ _ _ _ _ _ _ _ _ _ _ _ _ _ _ _ _ _ _ _ _ _ _ _ _ _ _ _ _ _ _ _ _ _ _ _ _ _ _ _ _ _ _ _ _ _ _ _ _ HS.out HG.out HW.out HB2.out HOK.out HKW.out
end Go.Proofs.YtlepnafgcmeimaaGreatDoor

/- What is proved: a name that stands for tokens without names gives these (the law ExpandPlain): what is wanted. -/
namespace Go.Proofs.YtlepnafgcmeimaaGreatDoor
open Go.RowKit Go.Shelf
open Mx (M HH)

theorem bodyT8_get {bd : List K} {q : Nat} {u : K} (h : bd[q]? = some u) : (bodyT8 bd)[q]? = some (if q = 0 then Ep.blK u true else u) := by
  cases bd with
  | nil => simp at h
  | cons t r =>
    cases q with
    | zero => simp only [List.getElem?_cons_zero, Option.some.injEq] at h; subst h; rfl
    | succ q => simp only [List.getElem?_cons_succ] at h; rw [if_neg (by omega)]; show (Ep.blK t true :: r)[q + 1]? = _; rw [List.getElem?_cons_succ]; exact h
/-- What has come of the body. -/
def midAt (A bd : List K) (q : Nat) : List K := A ++ (bodyT8 bd).take q
theorem midAt_step {A bd : List K} {q : Nat} {u : K} (h : bd[q]? = some u) : midAt A bd (q + 1) = midAt A bd q ++ [if q = 0 then Ep.blK u true else u] := by
  have h1 := bodyT8_get h
  unfold midAt
  rw [take_snoc h1, List.append_assoc]
theorem midAt_len (A bd : List K) (q : Nat) : (midAt A bd q).length ≤ A.length + bd.length := by
  unfold midAt; rw [List.length_append, List.length_take, bodyT8_len]; omega
theorem midAt_zero (A bd B : List K) : wantAt A bd B A.length = midAt A bd 0 := by
  unfold wantAt midAt
  rw [if_pos (Nat.le_refl _), List.take_length, List.take_zero, List.append_nil]
theorem midAt_end (A bd B : List K) : wantAt A bd B (A.length + 1) = midAt A bd bd.length := by
  rw [wantAt_mid, midAt_zero]
  unfold midAt
  rw [List.take_zero, List.append_nil, List.take_of_length_le (by rw [bodyT8_len]; exact Nat.le_refl _)]

set_option maxRecDepth 100000 in
set_option maxHeartbeats 16000000 in
theorem plain_loop10 (w W0 : World) (mg mo mc na nb : Nat) (ad bd' : Option Addr) (ac bc : Nat) (m : M) (A B : List K) (nm : K) (aa : Option Addr) (N ca : Nat) (c0 c1 c2 c3 c4 c5 c6 c9 c12 c15 c16 c17 c18 c19 c20 c21 c22 c23 c24 c25 c26 c27 c28 c29 c30 c31 c32 c33 c34 c35 c36 c37 c38 c39 c40 c41 c42 c43 c44 c45 c46 c47 c48 c49 c50 c51 c52 c53 c54 c55 c56 c57 c58 c59 c60 c61 c62 c63 c64 c65 c66 c67 c68 c69 c70 c71 c72 c73 c74 c75 c76 c77 c78 c79 c80 c81 c82 c83 c84 c85 c86 c87 c88 c89 c90 c91 c92 c93 c94 c95 c96 c97 c98 c99 c100 c101 c102 c103 c104 c105 c106 c107 c108 c109 c110 c111 c112 c113 c114 c115 c116 c117 c118 c119 c120 c121 c122 c123 c124 c125 c126 c127 c128 c129 c130 c131 c132 c133 c134 c135 c136 c137 c138 c139 c140 c141 c142 c143 c144 c145 c146 c147 c148 c149 c150 c151 c152 c153 c154 c155 c156 c157 c158 c159 c160 c161 c162 c163 c164 c165 c166 c167 c168 c169 c170 c171 c172 c173 c174 c175 c176 c177 c178 c179 c180 c181 c182 c183 c184 c185 c186 c187 c188 c189 : Value)
    (hS : PlS W0 mg mo mc na nb ad bd' ac bc (.slice aa N ca) m A B nm) (hN : N = na + 1 + nb) (hG : Glob w) (hw : Below w.heap.size w W0) :
    Code.wp Tryz.prog (secs 10 plBody8) (bodyPost Tryz.prog Tryz.f4 (TruePost w)) ⟨#[c0, c1, c2, c3, c4, c5, c6, .bool true, .slice (some ⟨mg, mo, none⟩) 1 mc, c9, .slice ad na ac, .slice bd' nb bc, c12, .slice aa N ca, .slice none 0 0, c15, c16, c17, c18, c19, c20, c21, c22, c23, c24, c25, c26, c27, c28, c29, c30, c31, c32, c33, c34, c35, c36, c37, c38, c39, c40, c41, c42, c43, c44, c45, c46, c47, c48, c49, c50, c51, c52, c53, c54, c55, c56, c57, c58, c59, c60, c61, c62, c63, c64, c65, c66, c67, c68, c69, c70, c71, c72, c73, c74, c75, c76, c77, c78, c79, c80, c81, c82, c83, c84, c85, c86, c87, c88, c89, c90, c91, c92, c93, c94, c95, c96, c97, c98, c99, c100, c101, c102, c103, c104, c105, c106, c107, c108, c109, c110, c111, c112, c113, c114, c115, c116, c117, c118, c119, c120, c121, c122, c123, c124, c125, c126, c127, c128, c129, c130, c131, c132, c133, c134, c135, c136, c137, c138, c139, c140, c141, c142, c143, c144, c145, c146, c147, c148, c149, c150, c151, c152, c153, c154, c155, c156, c157, c158, c159, c160, c161, c162, c163, c164, c165, c166, c167, c168, c169, c170, c171, c172, c173, c174, c175, c176, c177, c178, c179, c180, c181, c182, c183, c184, c185, c186, c187, c188, c189], []⟩ W0 := by
  obtain ⟨i0, hi, hz0, hz1, hz2⟩ := info_parts infoTok
  obtain ⟨ba, bcap, -, -, b4, hkb⟩ := hS.body
  obtain ⟨nB, hnB⟩ : ∃ n, n = m.body.length := ⟨_, rfl⟩
  rw [← hnB] at b4 hkb
  have hmg := lt_of_cell b4
  have HB4 : Hid (∀ X, Below W0.heap.size W0 X → X.cell? ⟨mg, mo + 4, none⟩ = some (.slice ba nB bcap)) := Lib.hid (fun X hX => (hX.cell (p := ⟨mg, mo + 4, none⟩) hmg).trans b4)
  have HKB := Lib.hid hkb
  have HNB := Lib.hid hnB
  have h1 := hS.la
  have h2 := hS.lb
  have h5 : nB ≤ 200 := by rw [hnB]; exact hS.sm.bl
  have HKA := Lib.hid hS.all
  have HNA := Lib.hid hS.ena
  have HNB2 := Lib.hid hS.enb
  have HS := Lib.hid hS
  have HG := Lib.hid hG
  have HW := Lib.hid hw
  have HN := Lib.hid hN
  have hlen : ∀ k, k ≤ N → (wantAt A m.body B k).length ≤ 1000 := fun k hk => by
    have := wantAt_len A m.body B k (by rw [← HNA.out, ← HNB2.out]; omega)
    have h6 := HNB.out
    omega
  have HLEN := Lib.hid hlen
  have hNs : N ≤ 401 := by omega
  clear hnB hkb b4 hS hG hw hN hlen
  refine wp_sec 10 plBody8 rfl ?_
  conv => arg 2; whnf
  go_wp2_with fail
  go_loopw [14, 15] (fun want i wr => ∃ (k : Nat), i = .int .i64 k ∧ k ≤ N ∧ wr.ownsRow W0.heap.size 30 6 want (wantAt A m.body B k).length (ksCells (wantAt A m.body B k)) ∧ AllOk na (A ++ nm :: B) k ∧ Below W0.heap.size W0 wr) (fun _ i _ => N - (intOf i).toNat)
  case atStart =>
    refine ⟨0, rfl, Nat.zero_le _, ?_, fun i t hi => by omega, Below.refl _ _⟩
    have e : wantAt A m.body B 0 = [] := by unfold wantAt; rw [if_pos (Nat.zero_le _)]; rfl
    rw [e]
    exact World.ownsRow_nil _ _ _ _
  case round =>
    obtain ⟨k, rfl, hk, hrow, hok, hB⟩ := hrel
    have HOK := Lib.hid hok
    have HB := Lib.hid hB
    have HROW := Lib.hid hrow
    by_cases hlt : k < N
    · have hLl : (A ++ nm :: B).length = N := by rw [List.length_append, List.length_cons, ← HNA.out, ← HNB2.out, HN.out]; omega
      obtain ⟨t, ht⟩ : ∃ t, (A ++ nm :: B)[k]? = some t := ⟨_, List.getElem?_eq_getElem (by rw [hLl]; exact hlt)⟩
      have HT := Lib.hid ht
      obtain ⟨g, o, rfl, hat⟩ := ks_some (HKA.out.below hB) ht
      obtain ⟨d0, d1, d2, d3, d4, d5⟩ := hat
      have hgl := lt_of_cell d0
      obtain ⟨kd, tx, f, fr, en, bl⟩ := t
      dsimp only at d0 d1 d2 d3 d4 d5
      have z5 : (0 : Int) ≤ k := by omega
      have z6 : (k : Int) < N := by omega
      clear hB hok ht hrow hLl
      by_cases h7 : kd = 7
      · have q7 : (kd == 7) = true := by simpa using h7
        clear h7
        go_wp2_with fail
        go_ret
        exact ⟨rfl, Below.then HW.out HB.out⟩
      · have q7 : (kd == 7) = false := by simpa using h7
        have hcase : (k ≠ na ∧ kd = 1) ∨ (k ≠ na ∧ kd ≠ 1) ∨ k = na := by
          by_cases e : k = na
          · exact .inr (.inr e)
          · by_cases e2 : kd = 1
            · exact .inl ⟨e, e2⟩
            · exact .inr (.inl ⟨e, e2⟩)
        rcases hcase with ⟨h8, h9⟩ | ⟨h8, h9⟩ | h8
        · have q8 : ((k : Int) != na) = true := by simp; omega
          have q9 : (kd == 1) = true := by simpa using h9
          clear h7 h8 h9
          go_wp2_with fail
          go_ret
          exact ⟨rfl, Below.then HW.out HB.out⟩
        · have q8 : ((k : Int) != na) = true := by simp; omega
          have q9 : (kd == 1) = false := by simpa using h9
          have hok2 : AllOk na (A ++ nm :: B) (k + 1) := HOK.out.snoc HT.out h7 (fun _ => h9)
          have hst := wantAt_step A m.body B nm k ⟨kd, tx, f, fr, en, bl⟩ HT.out (by rw [← HNA.out]; exact h8)
          have hll := HLEN.out k hk
          obtain ⟨acc, hacc⟩ : ∃ acc, acc = wantAt A m.body B k := ⟨_, rfl⟩
          have hrow := HROW.out
          rw [← hacc] at hrow hst hll
          have HST := Lib.hid hst
          have HOK2 := Lib.hid hok2
          have hbs := HB.out.size
          clear h7 h8 h9 hok2 hst hacc
          go_wp2_with (at_builtin; refine wpList_append_lies _ rfl _ _ 27 rfl W0.heap.size 30 i0 _ 6 56 Tryz.underlying27 hi hz0 hz1 hz2 rfl (by decide) _ acc.length (ksCells acc) rfl (hrow.alloc _) ⟨wr.heap.size, 0, none⟩ 1 1 (kCells ⟨kd, tx, f, fr, en, bl⟩) rfl rfl (World.news_of_block (cs := #[.int .i64 kd, .string tx, .int .i64 f, .int .i64 fr, .int .i64 en, .bool bl]) (t := 30) (fr := (0, 0)) (heap_alloc_new wr _)) (by simp [Value.oneCell', kCells]) (by decide) (by unfold maxLen; omega) (by omega) (by simp; omega) _ rfl ?_; intro gg cap' w4 hown hgrow hat hlt2)
          go_roundw
          case rel =>
            refine ⟨k + 1, by go_num, by omega, ?_, HOK2.out, ?_⟩
            · rw [HST.out, List.length_append, ksCells_append]
              exact hown
            · exact (HB.out.alloc hbs _).grown hgrow (by simp; omega) (fun i e => (hrow.lt i e).1)
          case measure => simp [intOf]; omega
        · have q8 : ((k : Int) != na) = false := by simp; omega
          have hok2 : AllOk na (A ++ nm :: B) (k + 1) := HOK.out.snoc HT.out h7 (fun e => absurd h8 e)
          have HOK2 := Lib.hid hok2
          have hkA : k = A.length := by rw [h8]; exact HNA.out
          have hrow0 := HROW.out
          rw [hkA, midAt_zero] at hrow0
          have HEND : Hid (wantAt A m.body B (k + 1) = midAt A m.body nB) := Lib.hid (by rw [hkA, HNB.out]; exact midAt_end A m.body B)
          have HROW0 := Lib.hid hrow0
          have HH8 := Lib.hid h8
          obtain ⟨W, rfl⟩ : ∃ W, W = wr := ⟨wr, rfl⟩
          clear h7 h8 hok2 hkA hrow0
          go_wp2_with fail
          go_loopw [14, 16] (fun want j wr => ∃ (q : Nat), j = .int .i64 q ∧ q ≤ nB ∧ wr.ownsRow W0.heap.size 30 6 want (midAt A m.body q).length (ksCells (midAt A m.body q)) ∧ Below W0.heap.size W0 wr) (fun _ j _ => nB - (intOf j).toNat)
          case atStart => exact ⟨0, rfl, Nat.zero_le _, HROW0.out, HB.out⟩
          case round =>
            obtain ⟨q, rfl, hq, hrow, hB2⟩ := hrel
            have hc4 := HB4.out wr hB2
            have HB2 := Lib.hid hB2
            have hbs := hB2.size
            have hmgl := lt_of_cell hc4
            by_cases hlq : q < nB
            · obtain ⟨u, hu⟩ : ∃ u, m.body[q]? = some u := ⟨_, List.getElem?_eq_getElem (by rw [← HNB.out]; exact hlq)⟩
              obtain ⟨bg, bo, rfl, hat⟩ := ks_some (HKB.out.below hB2) hu
              obtain ⟨d0, d1, d2, d3, d4, d5⟩ := hat
              have hgl := lt_of_cell d0
              have hst := midAt_step (A := A) hu
              have hll := midAt_len A m.body q
              have hnaa := HNA.out
              have hnbb := HNB.out
              obtain ⟨acc, hacc⟩ : ∃ acc, acc = midAt A m.body q := ⟨_, rfl⟩
              rw [← hacc] at hrow hst hll
              obtain ⟨kd, tx, f, fr, en, bl⟩ := u
              dsimp only at d0 d1 d2 d3 d4 d5
              have hll2 : acc.length ≤ 400 := by omega
              have z7 : (0 : Int) ≤ q := by omega
              have z8 : (q : Int) < nB := by omega
              have hthree : (bl = true) ∨ (bl = false ∧ q = 0) ∨ (bl = false ∧ q ≠ 0) := by
                cases bl
                · by_cases e : q = 0
                  · exact .inr (.inl ⟨rfl, e⟩)
                  · exact .inr (.inr ⟨rfl, e⟩)
                · exact .inl rfl
              have hst2 : midAt A m.body (q + 1) = acc ++ [⟨kd, tx, f, fr, en, bl || (q == 0)⟩] := by
                rw [hst]
                congr 2
                by_cases e : q = 0
                · rw [if_pos e]; subst e; simp [Ep.blK]
                · rw [if_neg e, show (q == 0) = false by simpa using e, Bool.or_false]
              clear hu hst hacc hB2 hnaa hnbb hll
              rcases hthree with rfl | ⟨rfl, h9⟩ | ⟨rfl, h9⟩
              · rw [Bool.true_or] at hst2
                have HST := Lib.hid hst2
                clear hst2
                go_wp2_with (at_builtin; refine wpList_append_lies _ rfl _ _ 27 rfl W0.heap.size 30 i0 _ 6 56 Tryz.underlying27 hi hz0 hz1 hz2 rfl (by decide) _ acc.length (ksCells acc) rfl ((hrow.alloc _).alloc _) ⟨wr.heap.size + 1, 0, none⟩ 1 1 (kCells ⟨kd, tx, f, fr, en, true⟩) rfl rfl (World.news_of_block (cs := #[.int .i64 kd, .string tx, .int .i64 f, .int .i64 fr, .int .i64 en, .bool true]) (t := 30) (fr := (0, 0)) (heap_alloc2_new wr _ _)) (by simp [Value.oneCell', kCells]) (by decide) (by unfold maxLen; omega) (by omega) (by simp; omega) _ rfl ?_; intro gg cap' w4 hown hgrow hat hlt2)
                go_roundw
                case rel =>
                  refine ⟨q + 1, by go_num, by omega, ?_, ?_⟩
                  · rw [HST.out, List.length_append, ksCells_append]
                    exact hown
                  · exact ((HB2.out.alloc hbs _).alloc (by simp; omega) _).grown hgrow (by simp; omega) (fun i e => (hrow.lt i e).1)
                case measure => simp [intOf]; omega
              · have q9 : ((q : Int) == 0) = true := by simp; omega
                rw [show (false || (q == 0)) = true by simpa using h9] at hst2
                have HST := Lib.hid hst2
                clear hst2 h9
                go_wp2_with (at_builtin; refine wpList_append_lies _ rfl _ _ 27 rfl W0.heap.size 30 i0 _ 6 56 Tryz.underlying27 hi hz0 hz1 hz2 rfl (by decide) _ acc.length (ksCells acc) rfl ((hrow.alloc _).alloc _) ⟨wr.heap.size + 1, 0, none⟩ 1 1 (kCells ⟨kd, tx, f, fr, en, true⟩) rfl rfl (World.news_of_block (cs := #[.int .i64 kd, .string tx, .int .i64 f, .int .i64 fr, .int .i64 en, .bool true]) (t := 30) (fr := (0, 0)) (heap_alloc2_new wr _ _)) (by simp [Value.oneCell', kCells]) (by decide) (by unfold maxLen; omega) (by omega) (by simp; omega) _ rfl ?_; intro gg cap' w4 hown hgrow hat hlt2)
                go_roundw
                case rel =>
                  refine ⟨q + 1, by go_num, by omega, ?_, ?_⟩
                  · rw [HST.out, List.length_append, ksCells_append]
                    exact hown
                  · exact ((HB2.out.alloc hbs _).alloc (by simp; omega) _).grown hgrow (by simp; omega) (fun i e => (hrow.lt i e).1)
                case measure => simp [intOf]; omega
              · have q9 : ((q : Int) == 0) = false := by simp; omega
                rw [show (false || (q == 0)) = false by simpa using h9] at hst2
                have HST := Lib.hid hst2
                clear hst2 h9
                go_wp2_with (at_builtin; refine wpList_append_lies _ rfl _ _ 27 rfl W0.heap.size 30 i0 _ 6 56 Tryz.underlying27 hi hz0 hz1 hz2 rfl (by decide) _ acc.length (ksCells acc) rfl ((hrow.alloc _).alloc _) ⟨wr.heap.size + 1, 0, none⟩ 1 1 (kCells ⟨kd, tx, f, fr, en, false⟩) rfl rfl (World.news_of_block (cs := #[.int .i64 kd, .string tx, .int .i64 f, .int .i64 fr, .int .i64 en, .bool false]) (t := 30) (fr := (0, 0)) (heap_alloc2_new wr _ _)) (by simp [Value.oneCell', kCells]) (by decide) (by unfold maxLen; omega) (by omega) (by simp; omega) _ rfl ?_; intro gg cap' w4 hown hgrow hat hlt2)
                go_roundw
                case rel =>
                  refine ⟨q + 1, by go_num, by omega, ?_, ?_⟩
                  · rw [HST.out, List.length_append, ksCells_append]
                    exact hown
                  · exact ((HB2.out.alloc hbs _).alloc (by simp; omega) _).grown hgrow (by simp; omega) (fun i e => (hrow.lt i e).1)
                case measure => simp [intOf]; omega
            · obtain rfl : q = nB := by omega
              rw [← HEND.out] at hrow
              have HROW2 := Lib.hid hrow
              clear hrow hB2
              go_wp2_with fail
              go_roundw
              case rel => exact ⟨k + 1, by go_num, by omega, HROW2.out, HOK2.out, HB2.out⟩
              case measure => simp [intOf]; omega
    · obtain rfl : k = N := by omega
      have e : wantAt A m.body B k = A ++ bodyT8 m.body ++ B := by
        have := wantAt_end A m.body B
        rw [HN.out, HNA.out, HNB2.out]
        exact this
      rw [e] at hrow
      have HROW2 := Lib.hid hrow
      clear hok hB hrow HROW e
      go_wp2_with fail
      exact plain_end11 w W0 _ mg mo mc na nb ad bd' ac bc m A B nm aa k ca _ _ _ _ _ _ _ _ _ _ _ _ _ _ _ _ _ _ _ _ _ _ _ _ _ _ _ _ _ _ _ _ _ _ _ _ _ _ _ _ _ _ _ _ _ _ _ _ _ _ _ _ _ _ _ _ _ _ _ _ _ _ _ _ _ _ _ _ _ _ _ _ _ _ _ _ _ _ _ _ _ _ _ _ _ _ _ _ _ _ _ _ _ _ _ _ _ _ _ _ _ _ _ _ _ _ _ _ _ _ _ _ _ _ _ _ _ _ _ _ _ _ _ _ _ _ _ _ _ _ _ _ _ _ _ _ _ _ _ _ _ _ _ _ _ _ _ _ _ _ _ _ _ _ _ _ _ _ _ _ _ _ _ _ _ _ _ _ _ _ _ _ _ _ _ _ _ _ _ _ _ _ _ _ _ HS.out HG.out HW.out HB.out (by have := HOK.out; rw [HN.out] at this; exact this) HROW2.out
end Go.Proofs.YtlepnafgcmeimaaGreatDoor
