/- What is proved: the chapter's examples, their pastes. -/
import Derived.Test.YtlkcmegjbdibcaaDoorZ9
namespace Go.Proofs.YtlkcmegjbdibcaaDoor
open Go.RowKit Go.Shelf

theorem alloc_cof {X : World} {o : Obj} {a : Addr} {v : Value} (hc : X.cell? a = some v) : (X.alloc o).cell? a = some v := below_cof ((Below.refl _ X).alloc (Nat.le_refl _) o) hc
theorem set6_cof {X : World} {B g z : Nat} {v a0 a1 a2 a3 a4 a5 : Value} (hg : g < B) (hc : X.cell? ⟨g, z, none⟩ = some v) :
    ((((((X.setCell ⟨B, 0, none⟩ a0).setCell ⟨B, 1, none⟩ a1).setCell ⟨B, 2, none⟩ a2).setCell ⟨B, 3, none⟩ a3).setCell ⟨B, 4, none⟩ a4).setCell ⟨B, 5, none⟩ a5).cell? ⟨g, z, none⟩ = some v :=
  ((six_below (Below.refl B X) (Nat.le_refl B) a0 a1 a2 a3 a4 a5).cell (p := ⟨g, z, none⟩) hg).trans hc
theorem paste_9 (w : World) (hG : Glob w) : Calls Tryd.prog 13 #[.agg #[.int .i64 5, .string ⟨#[47]⟩, .int .i64 0, .int .i64 8, .int .i64 9, .bool true], .agg #[.int .i64 5, .string ⟨#[47]⟩, .int .i64 0, .int .i64 10, .int .i64 11, .bool true]] w fun e w' => e = .returned (.tuple #[.agg #[.int .i64 0, .string ⟨#[]⟩, .int .i64 0, .int .i64 0, .int .i64 0, .bool false], .int .i64 70]) ∧ Below w.heap.size w w' :=
  paste_lit (⟨5, ⟨#[47]⟩, 0, 8, 9, true⟩ : K) (⟨5, ⟨#[47]⟩, 0, 10, 11, true⟩ : K) _ (by decide) (by kernel_rfl) w hG

set_option maxRecDepth 100000 in
set_option maxHeartbeats 4000000 in
theorem aw9 (w W : World) (b3 g o cap b5 b7 : Nat) (hG : Glob w) (hB : Below w.heap.size w W) (k3 : W.heap[b3]? = some (.cells #[.int .i64 4, .string ⟨#[34, 102, 40, 92, 34, 120, 92, 92, 110, 92, 34, 44, 32, 39, 92, 34, 39, 41, 34]⟩, .int .i64 0, .int .i64 0, .int .i64 0, .bool false] 26 (0, 0))) (hD : Ks W (.slice (some ⟨g, o, none⟩) 6 cap) awToks) (k5 : W.heap[b5]? = some (.cells #[.int .i64 1, .string ⟨#[97, 49]⟩, .int .i64 0, .int .i64 0, .int .i64 1, .bool false] 26 (0, 0))) (k7 : W.heap[b7]? = some (.cells #[.int .i64 5, .string ⟨#[43, 43]⟩, .int .i64 0, .int .i64 4, .int .i64 5, .bool true] 26 (0, 0)))
    (c0 c9 c11 c12 c13 c14 c15 c16 c17 c18 c19 c20 c21 c22 c23 c24 c25 c26 c27 c28 c29 c30 c31 c32 c33 c34 c35 c36 c37 c38 c39 c40 c41 c42 c43 c44 c45 c46 c47 c48 c49 c50 c51 c52 c53 c54 c55 c56 c57 c58 c59 c60 c61 c62 c63 c64 c65 c66 c67 c68 c69 c70 c71 c72 c73 c74 c75 c76 c77 c78 c79 c80 c81 c82 c83 c84 c85 c86 c87 c88 c89 c90 c91 c92 c93 c94 c95 c96 c97 c98 c99 c100 c101 c102 c103 c104 c105 c106 c107 c108 c109 c110 c111 c112 c113 c114 c115 c116 c117 c118 c119 c120 c121 c122 c123 c124 c125 c126 c127 c128 c129 c130 c131 c132 c133 c134 c135 c136 c137 c138 c139 c140 c141 c142 : Value) :
    Code.wp Tryd.prog (secs 9 awBody) (bodyPost Tryd.prog Tryd.f8 (TruePost w)) ⟨#[c0, .string ⟨#[97, 32, 43, 98]⟩, .string ⟨#[97]⟩, .pointer (some ⟨b3, 0, none⟩), .slice (some ⟨g, o, none⟩) 6 cap, .pointer (some ⟨b5, 0, none⟩), .int .i64 0, .pointer (some ⟨b7, 0, none⟩), .int .i64 0, c9, .int .i64 70, c11, c12, c13, c14, c15, c16, c17, c18, c19, c20, c21, c22, c23, c24, c25, c26, c27, c28, c29, c30, c31, c32, c33, c34, c35, c36, c37, c38, c39, c40, c41, c42, c43, c44, c45, c46, c47, c48, c49, c50, c51, c52, c53, c54, c55, c56, c57, c58, c59, c60, c61, c62, c63, c64, c65, c66, c67, c68, c69, c70, c71, c72, c73, c74, c75, c76, c77, c78, c79, c80, c81, c82, c83, c84, c85, c86, c87, c88, c89, c90, c91, c92, c93, c94, c95, c96, c97, c98, c99, c100, c101, c102, c103, c104, c105, c106, c107, c108, c109, c110, c111, c112, c113, c114, c115, c116, c117, c118, c119, c120, c121, c122, c123, c124, c125, c126, c127, c128, c129, c130, c131, c132, c133, c134, c135, c136, c137, c138, c139, c140, c141, c142], []⟩ W := by
  obtain ⟨g', o', e, -, hc1, hc2, hgl, hat⟩ := hD.cells (by decide)
  injection e with e
  injection e with e1 e2
  subst e1 e2
  have ap := hat 4 _ rfl
  obtain ⟨p0, p1, p2, p3, p4, p5⟩ := (show W.cell? ⟨g, o + 24, none⟩ = some (.int .i64 5) ∧ W.cell? ⟨g, o + 24 + 1, none⟩ = some (.string ⟨#[47]⟩) ∧ W.cell? ⟨g, o + 24 + 2, none⟩ = some (.int .i64 0) ∧ W.cell? ⟨g, o + 24 + 3, none⟩ = some (.int .i64 8) ∧ W.cell? ⟨g, o + 24 + 4, none⟩ = some (.int .i64 9) ∧ W.cell? ⟨g, o + 24 + 5, none⟩ = some (.bool true) from ap)
  have aq := hat 5 _ rfl
  obtain ⟨q0, q1, q2, q3, q4, q5⟩ := (show W.cell? ⟨g, o + 30, none⟩ = some (.int .i64 5) ∧ W.cell? ⟨g, o + 30 + 1, none⟩ = some (.string ⟨#[47]⟩) ∧ W.cell? ⟨g, o + 30 + 2, none⟩ = some (.int .i64 0) ∧ W.cell? ⟨g, o + 30 + 3, none⟩ = some (.int .i64 10) ∧ W.cell? ⟨g, o + 30 + 4, none⟩ = some (.int .i64 11) ∧ W.cell? ⟨g, o + 30 + 5, none⟩ = some (.bool true) from aq)
  have hn1 : ¬ g = W.heap.size := by omega
  have hn2 : ¬ W.heap.size = g := by omega
  have HD := Lib.hid hD
  have HB := Lib.hid hB
  have HG := Lib.hid hG
  have K3 := Lib.hid k3
  have K5 := Lib.hid k5
  have K7 := Lib.hid k7
  clear hD hB hG ap aq hat hc1 hc2 k3 k5 k7
  have hl6 : awToks.length = 6 := rfl
  have y1 : (1 : Int) < 6 := by decide
  have hW : Below W.heap.size W W := Below.refl _ W
  have HGW := Lib.hid (HG.out.later HB.out)
  have HS0 := Lib.hid (show ∀ X : World, Below W.heap.size W X → X.cell? ⟨g, o + 24, none⟩ = some (.int .i64 5) ∧ X.cell? ⟨g, o + 24 + 1, none⟩ = some (.string ⟨#[47]⟩) ∧ X.cell? ⟨g, o + 24 + 2, none⟩ = some (.int .i64 0) ∧ X.cell? ⟨g, o + 24 + 3, none⟩ = some (.int .i64 8) ∧ X.cell? ⟨g, o + 24 + 4, none⟩ = some (.int .i64 9) ∧ X.cell? ⟨g, o + 24 + 5, none⟩ = some (.bool true) ∧ X.cell? ⟨g, o + 30, none⟩ = some (.int .i64 5) ∧ X.cell? ⟨g, o + 30 + 1, none⟩ = some (.string ⟨#[47]⟩) ∧ X.cell? ⟨g, o + 30 + 2, none⟩ = some (.int .i64 0) ∧ X.cell? ⟨g, o + 30 + 3, none⟩ = some (.int .i64 10) ∧ X.cell? ⟨g, o + 30 + 4, none⟩ = some (.int .i64 11) ∧ X.cell? ⟨g, o + 30 + 5, none⟩ = some (.bool true) ∧ Below W.heap.size W X from fun X hX => ⟨(hX.cell (p := ⟨g, o + 24, none⟩) hgl).trans p0, (hX.cell (p := ⟨g, o + 24 + 1, none⟩) hgl).trans p1, (hX.cell (p := ⟨g, o + 24 + 2, none⟩) hgl).trans p2, (hX.cell (p := ⟨g, o + 24 + 3, none⟩) hgl).trans p3, (hX.cell (p := ⟨g, o + 24 + 4, none⟩) hgl).trans p4, (hX.cell (p := ⟨g, o + 24 + 5, none⟩) hgl).trans p5, (hX.cell (p := ⟨g, o + 30, none⟩) hgl).trans q0, (hX.cell (p := ⟨g, o + 30 + 1, none⟩) hgl).trans q1, (hX.cell (p := ⟨g, o + 30 + 2, none⟩) hgl).trans q2, (hX.cell (p := ⟨g, o + 30 + 3, none⟩) hgl).trans q3, (hX.cell (p := ⟨g, o + 30 + 4, none⟩) hgl).trans q4, (hX.cell (p := ⟨g, o + 30 + 5, none⟩) hgl).trans q5, hX⟩)
  have hW1 := hW.drew
  have hWA : ∀ o, Below W.heap.size W (W.alloc o).drew := fun o => (hW.alloc (Nat.le_refl _) o).drew
  refine wp_sec 9 awBody rfl ?_
  conv => arg 2; whnf
  go_region_held3 (fun w' => w'.cell? ⟨g, o + 24, none⟩ = some (.int .i64 5) ∧ w'.cell? ⟨g, o + 24 + 1, none⟩ = some (.string ⟨#[47]⟩) ∧ w'.cell? ⟨g, o + 24 + 2, none⟩ = some (.int .i64 0) ∧ w'.cell? ⟨g, o + 24 + 3, none⟩ = some (.int .i64 8) ∧ w'.cell? ⟨g, o + 24 + 4, none⟩ = some (.int .i64 9) ∧ w'.cell? ⟨g, o + 24 + 5, none⟩ = some (.bool true) ∧ w'.cell? ⟨g, o + 30, none⟩ = some (.int .i64 5) ∧ w'.cell? ⟨g, o + 30 + 1, none⟩ = some (.string ⟨#[47]⟩) ∧ w'.cell? ⟨g, o + 30 + 2, none⟩ = some (.int .i64 0) ∧ w'.cell? ⟨g, o + 30 + 3, none⟩ = some (.int .i64 10) ∧ w'.cell? ⟨g, o + 30 + 4, none⟩ = some (.int .i64 11) ∧ w'.cell? ⟨g, o + 30 + 5, none⟩ = some (.bool true) ∧ Below W.heap.size W w')
    ((refine HS0.out _ ?_
      first
       | with_reducible exact hW1
       | with_reducible exact hWc
       | with_reducible exact hWcA _
       | with_reducible exact hWA _
       | with_reducible exact six_below hWc (Nat.le_refl _) _ _ _ _ _ _
        | exact six_below hWc (Nat.le_refl _) _ _ _ _ _ _))
    ((go_at_call 13; go_split_ands; refine (paste_9 _ (HGW.out.later (by assumption))).mono ?_; rintro e wc ⟨rfl, hBc⟩; have hWc : Below W.heap.size W wc := (by with_reducible exact Below.trans (by assumption) (hBc.mono (Below.size (by assumption)))); first | (have hz : wc.heap[W.heap.size]? = some (.cells #[.int .i64 0, .string ⟨#[]⟩, .int .i64 0, .int .i64 0, .int .i64 0, .bool false] 26 (0, 0)) := (hBc.block _ (by simp)).trans (heap_alloc_new W _); obtain ⟨b0x, b1x, b2x, b3x, b4x, b5x⟩ := box6_cells hz; have qz : ∀ i, wc.frozen? ⟨W.heap.size, i, none⟩ = false := fun i => (by simp [World.frozen?, hz]); have HZ := Lib.hid hz; clear hz) | skip; have hWcA : ∀ o, Below W.heap.size W (wc.alloc o) := fun o => hWc.alloc hWc.size o; clear hBc))
  · have hF := hWcA (.cells #[.int .i64 0, .string ⟨#[]⟩, .int .i64 0, .int .i64 0, .int .i64 0, .bool false] 26)
    exact aw10 w _ b3 b5 b7 HG.out (Below.then HB.out hF) ((hF.block _ (lt_of_block K3.out)).trans K3.out) ((hF.block _ (lt_of_block K5.out)).trans K5.out) ((hF.block _ (lt_of_block K7.out)).trans K7.out) _ _ _ _ _ _ _ _ _ _ _ _ _ _ _ _ _ _ _ _ _ _ _ _ _ _ _ _ _ _ _ _ _ _ _ _ _ _ _ _ _ _ _ _ _ _ _ _ _ _ _ _ _ _ _ _ _ _ _ _ _ _ _ _ _ _ _ _ _ _ _ _ _ _ _ _ _ _ _ _ _ _ _ _ _ _ _ _ _ _ _ _ _ _ _ _ _ _ _ _ _ _ _ _ _ _ _ _ _ _ _ _ _ _ _ _ _ _ _ _ _ _ _ _ _ _ _ _ _ _ _ _ _ _
  · have hF := six_below hWc (Nat.le_refl _) (.int .i64 0) (.string ⟨#[]⟩) (.int .i64 0) (.int .i64 0) (.int .i64 0) (.bool false)
    exact aw10 w _ b3 b5 b7 HG.out (Below.then HB.out hF) ((hF.block _ (lt_of_block K3.out)).trans K3.out) ((hF.block _ (lt_of_block K5.out)).trans K5.out) ((hF.block _ (lt_of_block K7.out)).trans K7.out) _ _ _ _ _ _ _ _ _ _ _ _ _ _ _ _ _ _ _ _ _ _ _ _ _ _ _ _ _ _ _ _ _ _ _ _ _ _ _ _ _ _ _ _ _ _ _ _ _ _ _ _ _ _ _ _ _ _ _ _ _ _ _ _ _ _ _ _ _ _ _ _ _ _ _ _ _ _ _ _ _ _ _ _ _ _ _ _ _ _ _ _ _ _ _ _ _ _ _ _ _ _ _ _ _ _ _ _ _ _ _ _ _ _ _ _ _ _ _ _ _ _ _ _ _ _ _ _ _ _ _ _ _ _
theorem paste_8 (w : World) (hG : Glob w) : Calls Tryd.prog 13 #[.agg #[.int .i64 5, .string ⟨#[43]⟩, .int .i64 0, .int .i64 4, .int .i64 5, .bool true], .agg #[.int .i64 1, .string ⟨#[97]⟩, .int .i64 0, .int .i64 0, .int .i64 1, .bool false]] w fun e w' => e = .returned (.tuple #[.agg #[.int .i64 0, .string ⟨#[]⟩, .int .i64 0, .int .i64 0, .int .i64 0, .bool false], .int .i64 70]) ∧ Below w.heap.size w w' :=
  paste_lit (⟨5, ⟨#[43]⟩, 0, 4, 5, true⟩ : K) (⟨1, ⟨#[97]⟩, 0, 0, 1, false⟩ : K) _ (by decide) (by kernel_rfl) w hG

set_option maxRecDepth 100000 in
set_option maxHeartbeats 4000000 in
theorem aw8 (w W : World) (b3 g o cap b5 b7 : Nat) (hG : Glob w) (hB : Below w.heap.size w W) (k3 : W.heap[b3]? = some (.cells #[.int .i64 4, .string ⟨#[34, 102, 40, 92, 34, 120, 92, 92, 110, 92, 34, 44, 32, 39, 92, 34, 39, 41, 34]⟩, .int .i64 0, .int .i64 0, .int .i64 0, .bool false] 26 (0, 0))) (hD : Ks W (.slice (some ⟨g, o, none⟩) 6 cap) awToks) (k5 : W.heap[b5]? = some (.cells #[.int .i64 1, .string ⟨#[97, 49]⟩, .int .i64 0, .int .i64 0, .int .i64 1, .bool false] 26 (0, 0))) (k7 : W.heap[b7]? = some (.cells #[.int .i64 5, .string ⟨#[43, 43]⟩, .int .i64 0, .int .i64 4, .int .i64 5, .bool true] 26 (0, 0)))
    (c0 c9 c10 c11 c12 c13 c14 c15 c16 c17 c18 c19 c20 c21 c22 c23 c24 c25 c26 c27 c28 c29 c30 c31 c32 c33 c34 c35 c36 c37 c38 c39 c40 c41 c42 c43 c44 c45 c46 c47 c48 c49 c50 c51 c52 c53 c54 c55 c56 c57 c58 c59 c60 c61 c62 c63 c64 c65 c66 c67 c68 c69 c70 c71 c72 c73 c74 c75 c76 c77 c78 c79 c80 c81 c82 c83 c84 c85 c86 c87 c88 c89 c90 c91 c92 c93 c94 c95 c96 c97 c98 c99 c100 c101 c102 c103 c104 c105 c106 c107 c108 c109 c110 c111 c112 c113 c114 c115 c116 c117 c118 c119 c120 c121 c122 c123 c124 c125 c126 c127 c128 c129 c130 c131 c132 c133 c134 c135 c136 c137 c138 c139 c140 c141 c142 : Value) :
    Code.wp Tryd.prog (secs 8 awBody) (bodyPost Tryd.prog Tryd.f8 (TruePost w)) ⟨#[c0, .string ⟨#[97, 32, 43, 98]⟩, .string ⟨#[97]⟩, .pointer (some ⟨b3, 0, none⟩), .slice (some ⟨g, o, none⟩) 6 cap, .pointer (some ⟨b5, 0, none⟩), .int .i64 0, .pointer (some ⟨b7, 0, none⟩), .int .i64 0, c9, c10, c11, c12, c13, c14, c15, c16, c17, c18, c19, c20, c21, c22, c23, c24, c25, c26, c27, c28, c29, c30, c31, c32, c33, c34, c35, c36, c37, c38, c39, c40, c41, c42, c43, c44, c45, c46, c47, c48, c49, c50, c51, c52, c53, c54, c55, c56, c57, c58, c59, c60, c61, c62, c63, c64, c65, c66, c67, c68, c69, c70, c71, c72, c73, c74, c75, c76, c77, c78, c79, c80, c81, c82, c83, c84, c85, c86, c87, c88, c89, c90, c91, c92, c93, c94, c95, c96, c97, c98, c99, c100, c101, c102, c103, c104, c105, c106, c107, c108, c109, c110, c111, c112, c113, c114, c115, c116, c117, c118, c119, c120, c121, c122, c123, c124, c125, c126, c127, c128, c129, c130, c131, c132, c133, c134, c135, c136, c137, c138, c139, c140, c141, c142], []⟩ W := by
  obtain ⟨g', o', e, -, hc1, hc2, hgl, hat⟩ := hD.cells (by decide)
  injection e with e
  injection e with e1 e2
  subst e1 e2
  have ap := hat 2 _ rfl
  obtain ⟨p0, p1, p2, p3, p4, p5⟩ := (show W.cell? ⟨g, o + 12, none⟩ = some (.int .i64 5) ∧ W.cell? ⟨g, o + 12 + 1, none⟩ = some (.string ⟨#[43]⟩) ∧ W.cell? ⟨g, o + 12 + 2, none⟩ = some (.int .i64 0) ∧ W.cell? ⟨g, o + 12 + 3, none⟩ = some (.int .i64 4) ∧ W.cell? ⟨g, o + 12 + 4, none⟩ = some (.int .i64 5) ∧ W.cell? ⟨g, o + 12 + 5, none⟩ = some (.bool true) from ap)
  have aq := hat 0 _ rfl
  obtain ⟨q0, q1, q2, q3, q4, q5⟩ := (show W.cell? ⟨g, o, none⟩ = some (.int .i64 1) ∧ W.cell? ⟨g, o + 1, none⟩ = some (.string ⟨#[97]⟩) ∧ W.cell? ⟨g, o + 2, none⟩ = some (.int .i64 0) ∧ W.cell? ⟨g, o + 3, none⟩ = some (.int .i64 0) ∧ W.cell? ⟨g, o + 4, none⟩ = some (.int .i64 1) ∧ W.cell? ⟨g, o + 5, none⟩ = some (.bool false) from aq)
  have hn1 : ¬ g = W.heap.size := by omega
  have hn2 : ¬ W.heap.size = g := by omega
  have HD := Lib.hid hD
  have HB := Lib.hid hB
  have HG := Lib.hid hG
  have K3 := Lib.hid k3
  have K5 := Lib.hid k5
  have K7 := Lib.hid k7
  clear hD hB hG ap aq hat hc1 hc2 k3 k5 k7
  have hl6 : awToks.length = 6 := rfl
  have y1 : (1 : Int) < 6 := by decide
  have hW : Below W.heap.size W W := Below.refl _ W
  have HGW := Lib.hid (HG.out.later HB.out)
  have HS0 := Lib.hid (show ∀ X : World, Below W.heap.size W X → X.cell? ⟨g, o + 12, none⟩ = some (.int .i64 5) ∧ X.cell? ⟨g, o + 12 + 1, none⟩ = some (.string ⟨#[43]⟩) ∧ X.cell? ⟨g, o + 12 + 2, none⟩ = some (.int .i64 0) ∧ X.cell? ⟨g, o + 12 + 3, none⟩ = some (.int .i64 4) ∧ X.cell? ⟨g, o + 12 + 4, none⟩ = some (.int .i64 5) ∧ X.cell? ⟨g, o + 12 + 5, none⟩ = some (.bool true) ∧ X.cell? ⟨g, o, none⟩ = some (.int .i64 1) ∧ X.cell? ⟨g, o + 1, none⟩ = some (.string ⟨#[97]⟩) ∧ X.cell? ⟨g, o + 2, none⟩ = some (.int .i64 0) ∧ X.cell? ⟨g, o + 3, none⟩ = some (.int .i64 0) ∧ X.cell? ⟨g, o + 4, none⟩ = some (.int .i64 1) ∧ X.cell? ⟨g, o + 5, none⟩ = some (.bool false) ∧ Below W.heap.size W X from fun X hX => ⟨(hX.cell (p := ⟨g, o + 12, none⟩) hgl).trans p0, (hX.cell (p := ⟨g, o + 12 + 1, none⟩) hgl).trans p1, (hX.cell (p := ⟨g, o + 12 + 2, none⟩) hgl).trans p2, (hX.cell (p := ⟨g, o + 12 + 3, none⟩) hgl).trans p3, (hX.cell (p := ⟨g, o + 12 + 4, none⟩) hgl).trans p4, (hX.cell (p := ⟨g, o + 12 + 5, none⟩) hgl).trans p5, (hX.cell (p := ⟨g, o, none⟩) hgl).trans q0, (hX.cell (p := ⟨g, o + 1, none⟩) hgl).trans q1, (hX.cell (p := ⟨g, o + 2, none⟩) hgl).trans q2, (hX.cell (p := ⟨g, o + 3, none⟩) hgl).trans q3, (hX.cell (p := ⟨g, o + 4, none⟩) hgl).trans q4, (hX.cell (p := ⟨g, o + 5, none⟩) hgl).trans q5, hX⟩)
  have hW1 := hW.drew
  have hWA : ∀ o, Below W.heap.size W (W.alloc o).drew := fun o => (hW.alloc (Nat.le_refl _) o).drew
  refine wp_sec 8 awBody rfl ?_
  conv => arg 2; whnf
  go_region_held3 (fun w' => w'.cell? ⟨g, o + 12, none⟩ = some (.int .i64 5) ∧ w'.cell? ⟨g, o + 12 + 1, none⟩ = some (.string ⟨#[43]⟩) ∧ w'.cell? ⟨g, o + 12 + 2, none⟩ = some (.int .i64 0) ∧ w'.cell? ⟨g, o + 12 + 3, none⟩ = some (.int .i64 4) ∧ w'.cell? ⟨g, o + 12 + 4, none⟩ = some (.int .i64 5) ∧ w'.cell? ⟨g, o + 12 + 5, none⟩ = some (.bool true) ∧ w'.cell? ⟨g, o, none⟩ = some (.int .i64 1) ∧ w'.cell? ⟨g, o + 1, none⟩ = some (.string ⟨#[97]⟩) ∧ w'.cell? ⟨g, o + 2, none⟩ = some (.int .i64 0) ∧ w'.cell? ⟨g, o + 3, none⟩ = some (.int .i64 0) ∧ w'.cell? ⟨g, o + 4, none⟩ = some (.int .i64 1) ∧ w'.cell? ⟨g, o + 5, none⟩ = some (.bool false) ∧ Below W.heap.size W w')
    ((refine HS0.out _ ?_
      first
       | with_reducible exact hW1
       | with_reducible exact hWc
       | with_reducible exact hWcA _
       | with_reducible exact hWA _
       | with_reducible exact six_below hWc (Nat.le_refl _) _ _ _ _ _ _
        | exact six_below hWc (Nat.le_refl _) _ _ _ _ _ _))
    ((go_at_call 13; go_split_ands; refine (paste_8 _ (HGW.out.later (by assumption))).mono ?_; rintro e wc ⟨rfl, hBc⟩; have hWc : Below W.heap.size W wc := (by with_reducible exact Below.trans (by assumption) (hBc.mono (Below.size (by assumption)))); first | (have hz : wc.heap[W.heap.size]? = some (.cells #[.int .i64 0, .string ⟨#[]⟩, .int .i64 0, .int .i64 0, .int .i64 0, .bool false] 26 (0, 0)) := (hBc.block _ (by simp)).trans (heap_alloc_new W _); obtain ⟨b0x, b1x, b2x, b3x, b4x, b5x⟩ := box6_cells hz; have qz : ∀ i, wc.frozen? ⟨W.heap.size, i, none⟩ = false := fun i => (by simp [World.frozen?, hz]); have HZ := Lib.hid hz; clear hz) | skip; have hWcA : ∀ o, Below W.heap.size W (wc.alloc o) := fun o => hWc.alloc hWc.size o; clear hBc))
  · have hF := hWcA (.cells #[.int .i64 0, .string ⟨#[]⟩, .int .i64 0, .int .i64 0, .int .i64 0, .bool false] 26)
    exact aw9 w _ b3 g o cap b5 b7 HG.out (Below.then HB.out hF) ((hF.block _ (lt_of_block K3.out)).trans K3.out) (HD.out.below hF) ((hF.block _ (lt_of_block K5.out)).trans K5.out) ((hF.block _ (lt_of_block K7.out)).trans K7.out) _ _ _ _ _ _ _ _ _ _ _ _ _ _ _ _ _ _ _ _ _ _ _ _ _ _ _ _ _ _ _ _ _ _ _ _ _ _ _ _ _ _ _ _ _ _ _ _ _ _ _ _ _ _ _ _ _ _ _ _ _ _ _ _ _ _ _ _ _ _ _ _ _ _ _ _ _ _ _ _ _ _ _ _ _ _ _ _ _ _ _ _ _ _ _ _ _ _ _ _ _ _ _ _ _ _ _ _ _ _ _ _ _ _ _ _ _ _ _ _ _ _ _ _ _ _ _ _ _ _ _ _ _ _
  · have hF := six_below hWc (Nat.le_refl _) (.int .i64 0) (.string ⟨#[]⟩) (.int .i64 0) (.int .i64 0) (.int .i64 0) (.bool false)
    exact aw9 w _ b3 g o cap b5 b7 HG.out (Below.then HB.out hF) ((hF.block _ (lt_of_block K3.out)).trans K3.out) (HD.out.below hF) ((hF.block _ (lt_of_block K5.out)).trans K5.out) ((hF.block _ (lt_of_block K7.out)).trans K7.out) _ _ _ _ _ _ _ _ _ _ _ _ _ _ _ _ _ _ _ _ _ _ _ _ _ _ _ _ _ _ _ _ _ _ _ _ _ _ _ _ _ _ _ _ _ _ _ _ _ _ _ _ _ _ _ _ _ _ _ _ _ _ _ _ _ _ _ _ _ _ _ _ _ _ _ _ _ _ _ _ _ _ _ _ _ _ _ _ _ _ _ _ _ _ _ _ _ _ _ _ _ _ _ _ _ _ _ _ _ _ _ _ _ _ _ _ _ _ _ _ _ _ _ _ _ _ _ _ _ _ _ _ _ _
theorem paste_7 (w : World) (hG : Glob w) : Calls Tryd.prog 13 #[.agg #[.int .i64 5, .string ⟨#[43]⟩, .int .i64 0, .int .i64 4, .int .i64 5, .bool true], .agg #[.int .i64 5, .string ⟨#[43]⟩, .int .i64 0, .int .i64 6, .int .i64 7, .bool true]] w fun e w' => e = .returned (.tuple #[.agg #[.int .i64 5, .string ⟨#[43, 43]⟩, .int .i64 0, .int .i64 4, .int .i64 5, .bool true], .int .i64 0]) ∧ Below w.heap.size w w' :=
  paste_lit (⟨5, ⟨#[43]⟩, 0, 4, 5, true⟩ : K) (⟨5, ⟨#[43]⟩, 0, 6, 7, true⟩ : K) _ (by decide) (by kernel_rfl) w hG

set_option maxRecDepth 100000 in
set_option maxHeartbeats 4000000 in
theorem aw7 (w W : World) (b3 g o cap b5 : Nat) (hG : Glob w) (hB : Below w.heap.size w W) (k3 : W.heap[b3]? = some (.cells #[.int .i64 4, .string ⟨#[34, 102, 40, 92, 34, 120, 92, 92, 110, 92, 34, 44, 32, 39, 92, 34, 39, 41, 34]⟩, .int .i64 0, .int .i64 0, .int .i64 0, .bool false] 26 (0, 0))) (hD : Ks W (.slice (some ⟨g, o, none⟩) 6 cap) awToks) (k5 : W.heap[b5]? = some (.cells #[.int .i64 1, .string ⟨#[97, 49]⟩, .int .i64 0, .int .i64 0, .int .i64 1, .bool false] 26 (0, 0)))
    (c0 c7 c8 c9 c10 c11 c12 c13 c14 c15 c16 c17 c18 c19 c20 c21 c22 c23 c24 c25 c26 c27 c28 c29 c30 c31 c32 c33 c34 c35 c36 c37 c38 c39 c40 c41 c42 c43 c44 c45 c46 c47 c48 c49 c50 c51 c52 c53 c54 c55 c56 c57 c58 c59 c60 c61 c62 c63 c64 c65 c66 c67 c68 c69 c70 c71 c72 c73 c74 c75 c76 c77 c78 c79 c80 c81 c82 c83 c84 c85 c86 c87 c88 c89 c90 c91 c92 c93 c94 c95 c96 c97 c98 c99 c100 c101 c102 c103 c104 c105 c106 c107 c108 c109 c110 c111 c112 c113 c114 c115 c116 c117 c118 c119 c120 c121 c122 c123 c124 c125 c126 c127 c128 c129 c130 c131 c132 c133 c134 c135 c136 c137 c138 c139 c140 c141 c142 : Value) :
    Code.wp Tryd.prog (secs 7 awBody) (bodyPost Tryd.prog Tryd.f8 (TruePost w)) ⟨#[c0, .string ⟨#[97, 32, 43, 98]⟩, .string ⟨#[97]⟩, .pointer (some ⟨b3, 0, none⟩), .slice (some ⟨g, o, none⟩) 6 cap, .pointer (some ⟨b5, 0, none⟩), .int .i64 0, c7, c8, c9, c10, c11, c12, c13, c14, c15, c16, c17, c18, c19, c20, c21, c22, c23, c24, c25, c26, c27, c28, c29, c30, c31, c32, c33, c34, c35, c36, c37, c38, c39, c40, c41, c42, c43, c44, c45, c46, c47, c48, c49, c50, c51, c52, c53, c54, c55, c56, c57, c58, c59, c60, c61, c62, c63, c64, c65, c66, c67, c68, c69, c70, c71, c72, c73, c74, c75, c76, c77, c78, c79, c80, c81, c82, c83, c84, c85, c86, c87, c88, c89, c90, c91, c92, c93, c94, c95, c96, c97, c98, c99, c100, c101, c102, c103, c104, c105, c106, c107, c108, c109, c110, c111, c112, c113, c114, c115, c116, c117, c118, c119, c120, c121, c122, c123, c124, c125, c126, c127, c128, c129, c130, c131, c132, c133, c134, c135, c136, c137, c138, c139, c140, c141, c142], []⟩ W := by
  obtain ⟨g', o', e, -, hc1, hc2, hgl, hat⟩ := hD.cells (by decide)
  injection e with e
  injection e with e1 e2
  subst e1 e2
  have ap := hat 2 _ rfl
  obtain ⟨p0, p1, p2, p3, p4, p5⟩ := (show W.cell? ⟨g, o + 12, none⟩ = some (.int .i64 5) ∧ W.cell? ⟨g, o + 12 + 1, none⟩ = some (.string ⟨#[43]⟩) ∧ W.cell? ⟨g, o + 12 + 2, none⟩ = some (.int .i64 0) ∧ W.cell? ⟨g, o + 12 + 3, none⟩ = some (.int .i64 4) ∧ W.cell? ⟨g, o + 12 + 4, none⟩ = some (.int .i64 5) ∧ W.cell? ⟨g, o + 12 + 5, none⟩ = some (.bool true) from ap)
  have aq := hat 3 _ rfl
  obtain ⟨q0, q1, q2, q3, q4, q5⟩ := (show W.cell? ⟨g, o + 18, none⟩ = some (.int .i64 5) ∧ W.cell? ⟨g, o + 18 + 1, none⟩ = some (.string ⟨#[43]⟩) ∧ W.cell? ⟨g, o + 18 + 2, none⟩ = some (.int .i64 0) ∧ W.cell? ⟨g, o + 18 + 3, none⟩ = some (.int .i64 6) ∧ W.cell? ⟨g, o + 18 + 4, none⟩ = some (.int .i64 7) ∧ W.cell? ⟨g, o + 18 + 5, none⟩ = some (.bool true) from aq)
  have hn1 : ¬ g = W.heap.size := by omega
  have hn2 : ¬ W.heap.size = g := by omega
  have HD := Lib.hid hD
  have HB := Lib.hid hB
  have HG := Lib.hid hG
  have K3 := Lib.hid k3
  have K5 := Lib.hid k5
  clear hD hB hG ap aq hat hc1 hc2 k3 k5
  have hl6 : awToks.length = 6 := rfl
  have y1 : (1 : Int) < 6 := by decide
  have hW : Below W.heap.size W W := Below.refl _ W
  have HGW := Lib.hid (HG.out.later HB.out)
  have HS0 := Lib.hid (show ∀ X : World, Below W.heap.size W X → X.cell? ⟨g, o + 12, none⟩ = some (.int .i64 5) ∧ X.cell? ⟨g, o + 12 + 1, none⟩ = some (.string ⟨#[43]⟩) ∧ X.cell? ⟨g, o + 12 + 2, none⟩ = some (.int .i64 0) ∧ X.cell? ⟨g, o + 12 + 3, none⟩ = some (.int .i64 4) ∧ X.cell? ⟨g, o + 12 + 4, none⟩ = some (.int .i64 5) ∧ X.cell? ⟨g, o + 12 + 5, none⟩ = some (.bool true) ∧ X.cell? ⟨g, o + 18, none⟩ = some (.int .i64 5) ∧ X.cell? ⟨g, o + 18 + 1, none⟩ = some (.string ⟨#[43]⟩) ∧ X.cell? ⟨g, o + 18 + 2, none⟩ = some (.int .i64 0) ∧ X.cell? ⟨g, o + 18 + 3, none⟩ = some (.int .i64 6) ∧ X.cell? ⟨g, o + 18 + 4, none⟩ = some (.int .i64 7) ∧ X.cell? ⟨g, o + 18 + 5, none⟩ = some (.bool true) ∧ Below W.heap.size W X from fun X hX => ⟨(hX.cell (p := ⟨g, o + 12, none⟩) hgl).trans p0, (hX.cell (p := ⟨g, o + 12 + 1, none⟩) hgl).trans p1, (hX.cell (p := ⟨g, o + 12 + 2, none⟩) hgl).trans p2, (hX.cell (p := ⟨g, o + 12 + 3, none⟩) hgl).trans p3, (hX.cell (p := ⟨g, o + 12 + 4, none⟩) hgl).trans p4, (hX.cell (p := ⟨g, o + 12 + 5, none⟩) hgl).trans p5, (hX.cell (p := ⟨g, o + 18, none⟩) hgl).trans q0, (hX.cell (p := ⟨g, o + 18 + 1, none⟩) hgl).trans q1, (hX.cell (p := ⟨g, o + 18 + 2, none⟩) hgl).trans q2, (hX.cell (p := ⟨g, o + 18 + 3, none⟩) hgl).trans q3, (hX.cell (p := ⟨g, o + 18 + 4, none⟩) hgl).trans q4, (hX.cell (p := ⟨g, o + 18 + 5, none⟩) hgl).trans q5, hX⟩)
  have hW1 := hW.drew
  have hWA : ∀ o, Below W.heap.size W (W.alloc o).drew := fun o => (hW.alloc (Nat.le_refl _) o).drew
  refine wp_sec 7 awBody rfl ?_
  conv => arg 2; whnf
  go_region_held3 (fun w' => w'.cell? ⟨g, o + 12, none⟩ = some (.int .i64 5) ∧ w'.cell? ⟨g, o + 12 + 1, none⟩ = some (.string ⟨#[43]⟩) ∧ w'.cell? ⟨g, o + 12 + 2, none⟩ = some (.int .i64 0) ∧ w'.cell? ⟨g, o + 12 + 3, none⟩ = some (.int .i64 4) ∧ w'.cell? ⟨g, o + 12 + 4, none⟩ = some (.int .i64 5) ∧ w'.cell? ⟨g, o + 12 + 5, none⟩ = some (.bool true) ∧ w'.cell? ⟨g, o + 18, none⟩ = some (.int .i64 5) ∧ w'.cell? ⟨g, o + 18 + 1, none⟩ = some (.string ⟨#[43]⟩) ∧ w'.cell? ⟨g, o + 18 + 2, none⟩ = some (.int .i64 0) ∧ w'.cell? ⟨g, o + 18 + 3, none⟩ = some (.int .i64 6) ∧ w'.cell? ⟨g, o + 18 + 4, none⟩ = some (.int .i64 7) ∧ w'.cell? ⟨g, o + 18 + 5, none⟩ = some (.bool true) ∧ Below W.heap.size W w')
    ((refine HS0.out _ ?_
      first
       | with_reducible exact hW1
       | with_reducible exact hWc
       | with_reducible exact hWcA _
       | with_reducible exact hWA _
       | with_reducible exact six_below hWc (Nat.le_refl _) _ _ _ _ _ _
        | exact six_below hWc (Nat.le_refl _) _ _ _ _ _ _))
    ((go_at_call 13; go_split_ands; refine (paste_7 _ (HGW.out.later (by assumption))).mono ?_; rintro e wc ⟨rfl, hBc⟩; have hWc : Below W.heap.size W wc := (by with_reducible exact Below.trans (by assumption) (hBc.mono (Below.size (by assumption)))); first | (have hz : wc.heap[W.heap.size]? = some (.cells #[.int .i64 0, .string ⟨#[]⟩, .int .i64 0, .int .i64 0, .int .i64 0, .bool false] 26 (0, 0)) := (hBc.block _ (by simp)).trans (heap_alloc_new W _); obtain ⟨b0x, b1x, b2x, b3x, b4x, b5x⟩ := box6_cells hz; have qz : ∀ i, wc.frozen? ⟨W.heap.size, i, none⟩ = false := fun i => (by simp [World.frozen?, hz]); have HZ := Lib.hid hz; clear hz) | skip; have hWcA : ∀ o, Below W.heap.size W (wc.alloc o) := fun o => hWc.alloc hWc.size o; clear hBc))
  · have hF := hWcA (.cells #[.int .i64 5, .string ⟨#[43, 43]⟩, .int .i64 0, .int .i64 4, .int .i64 5, .bool true] 26)
    exact aw8 w _ b3 g o cap b5 wc.heap.size HG.out (Below.then HB.out hF) ((hF.block _ (lt_of_block K3.out)).trans K3.out) (HD.out.below hF) ((hF.block _ (lt_of_block K5.out)).trans K5.out) (heap_alloc_new wc _) _ _ _ _ _ _ _ _ _ _ _ _ _ _ _ _ _ _ _ _ _ _ _ _ _ _ _ _ _ _ _ _ _ _ _ _ _ _ _ _ _ _ _ _ _ _ _ _ _ _ _ _ _ _ _ _ _ _ _ _ _ _ _ _ _ _ _ _ _ _ _ _ _ _ _ _ _ _ _ _ _ _ _ _ _ _ _ _ _ _ _ _ _ _ _ _ _ _ _ _ _ _ _ _ _ _ _ _ _ _ _ _ _ _ _ _ _ _ _ _ _ _ _ _ _ _ _ _ _ _ _ _ _ _ _
  · have hF := six_below hWc (Nat.le_refl _) (.int .i64 5) (.string ⟨#[43, 43]⟩) (.int .i64 0) (.int .i64 4) (.int .i64 5) (.bool true)
    exact aw8 w _ b3 g o cap b5 W.heap.size HG.out (Below.then HB.out hF) ((hF.block _ (lt_of_block K3.out)).trans K3.out) (HD.out.below hF) ((hF.block _ (lt_of_block K5.out)).trans K5.out) (six_set HZ.out _ _ _ _ _ _) _ _ _ _ _ _ _ _ _ _ _ _ _ _ _ _ _ _ _ _ _ _ _ _ _ _ _ _ _ _ _ _ _ _ _ _ _ _ _ _ _ _ _ _ _ _ _ _ _ _ _ _ _ _ _ _ _ _ _ _ _ _ _ _ _ _ _ _ _ _ _ _ _ _ _ _ _ _ _ _ _ _ _ _ _ _ _ _ _ _ _ _ _ _ _ _ _ _ _ _ _ _ _ _ _ _ _ _ _ _ _ _ _ _ _ _ _ _ _ _ _ _ _ _ _ _ _ _ _ _ _ _ _ _ _
theorem paste_6 (w : World) (hG : Glob w) : Calls Tryd.prog 13 #[.agg #[.int .i64 1, .string ⟨#[97]⟩, .int .i64 0, .int .i64 0, .int .i64 1, .bool false], .agg #[.int .i64 2, .string ⟨#[49]⟩, .int .i64 0, .int .i64 2, .int .i64 3, .bool true]] w fun e w' => e = .returned (.tuple #[.agg #[.int .i64 1, .string ⟨#[97, 49]⟩, .int .i64 0, .int .i64 0, .int .i64 1, .bool false], .int .i64 0]) ∧ Below w.heap.size w w' :=
  paste_lit (⟨1, ⟨#[97]⟩, 0, 0, 1, false⟩ : K) (⟨2, ⟨#[49]⟩, 0, 2, 3, true⟩ : K) _ (by decide) (by kernel_rfl) w hG

set_option maxRecDepth 100000 in
set_option maxHeartbeats 4000000 in
theorem aw6 (w W : World) (b3 g o cap : Nat) (hG : Glob w) (hB : Below w.heap.size w W) (k3 : W.heap[b3]? = some (.cells #[.int .i64 4, .string ⟨#[34, 102, 40, 92, 34, 120, 92, 92, 110, 92, 34, 44, 32, 39, 92, 34, 39, 41, 34]⟩, .int .i64 0, .int .i64 0, .int .i64 0, .bool false] 26 (0, 0))) (hD : Ks W (.slice (some ⟨g, o, none⟩) 6 cap) awToks)
    (c0 c5 c6 c7 c8 c9 c10 c11 c12 c13 c14 c15 c16 c17 c18 c19 c20 c21 c22 c23 c24 c25 c26 c27 c28 c29 c30 c31 c32 c33 c34 c35 c36 c37 c38 c39 c40 c41 c42 c43 c44 c45 c46 c47 c48 c49 c50 c51 c52 c53 c54 c55 c56 c57 c58 c59 c60 c61 c62 c63 c64 c65 c66 c67 c68 c69 c70 c71 c72 c73 c74 c75 c76 c77 c78 c79 c80 c81 c82 c83 c84 c85 c86 c87 c88 c89 c90 c91 c92 c93 c94 c95 c96 c97 c98 c99 c100 c101 c102 c103 c104 c105 c106 c107 c108 c109 c110 c111 c112 c113 c114 c115 c116 c117 c118 c119 c120 c121 c122 c123 c124 c125 c126 c127 c128 c129 c130 c131 c132 c133 c134 c135 c136 c137 c138 c139 c140 c141 c142 : Value) :
    Code.wp Tryd.prog (secs 6 awBody) (bodyPost Tryd.prog Tryd.f8 (TruePost w)) ⟨#[c0, .string ⟨#[97, 32, 43, 98]⟩, .string ⟨#[97]⟩, .pointer (some ⟨b3, 0, none⟩), .slice (some ⟨g, o, none⟩) 6 cap, c5, c6, c7, c8, c9, c10, c11, c12, c13, c14, c15, c16, c17, c18, c19, c20, c21, c22, c23, c24, c25, c26, c27, c28, c29, c30, c31, c32, c33, c34, c35, c36, c37, c38, c39, c40, c41, c42, c43, c44, c45, c46, c47, c48, c49, c50, c51, c52, c53, c54, c55, c56, c57, c58, c59, c60, c61, c62, c63, c64, c65, c66, c67, c68, c69, c70, c71, c72, c73, c74, c75, c76, c77, c78, c79, c80, c81, c82, c83, c84, c85, c86, c87, c88, c89, c90, c91, c92, c93, c94, c95, c96, c97, c98, c99, c100, c101, c102, c103, c104, c105, c106, c107, c108, c109, c110, c111, c112, c113, c114, c115, c116, c117, c118, c119, c120, c121, c122, c123, c124, c125, c126, c127, c128, c129, c130, c131, c132, c133, c134, c135, c136, c137, c138, c139, c140, c141, c142], []⟩ W := by
  obtain ⟨g', o', e, -, hc1, hc2, hgl, hat⟩ := hD.cells (by decide)
  injection e with e
  injection e with e1 e2
  subst e1 e2
  have ap := hat 0 _ rfl
  obtain ⟨p0, p1, p2, p3, p4, p5⟩ := (show W.cell? ⟨g, o, none⟩ = some (.int .i64 1) ∧ W.cell? ⟨g, o + 1, none⟩ = some (.string ⟨#[97]⟩) ∧ W.cell? ⟨g, o + 2, none⟩ = some (.int .i64 0) ∧ W.cell? ⟨g, o + 3, none⟩ = some (.int .i64 0) ∧ W.cell? ⟨g, o + 4, none⟩ = some (.int .i64 1) ∧ W.cell? ⟨g, o + 5, none⟩ = some (.bool false) from ap)
  have aq := hat 1 _ rfl
  obtain ⟨q0, q1, q2, q3, q4, q5⟩ := (show W.cell? ⟨g, o + 6, none⟩ = some (.int .i64 2) ∧ W.cell? ⟨g, o + 6 + 1, none⟩ = some (.string ⟨#[49]⟩) ∧ W.cell? ⟨g, o + 6 + 2, none⟩ = some (.int .i64 0) ∧ W.cell? ⟨g, o + 6 + 3, none⟩ = some (.int .i64 2) ∧ W.cell? ⟨g, o + 6 + 4, none⟩ = some (.int .i64 3) ∧ W.cell? ⟨g, o + 6 + 5, none⟩ = some (.bool true) from aq)
  have hn1 : ¬ g = W.heap.size := by omega
  have hn2 : ¬ W.heap.size = g := by omega
  have HD := Lib.hid hD
  have HB := Lib.hid hB
  have HG := Lib.hid hG
  have K3 := Lib.hid k3
  clear hD hB hG ap aq hat hc1 hc2 k3
  have hl6 : awToks.length = 6 := rfl
  have y1 : (1 : Int) < 6 := by decide
  have hW : Below W.heap.size W W := Below.refl _ W
  have HGW := Lib.hid (HG.out.later HB.out)
  have HS0 := Lib.hid (show ∀ X : World, Below W.heap.size W X → X.cell? ⟨g, o, none⟩ = some (.int .i64 1) ∧ X.cell? ⟨g, o + 1, none⟩ = some (.string ⟨#[97]⟩) ∧ X.cell? ⟨g, o + 2, none⟩ = some (.int .i64 0) ∧ X.cell? ⟨g, o + 3, none⟩ = some (.int .i64 0) ∧ X.cell? ⟨g, o + 4, none⟩ = some (.int .i64 1) ∧ X.cell? ⟨g, o + 5, none⟩ = some (.bool false) ∧ X.cell? ⟨g, o + 6, none⟩ = some (.int .i64 2) ∧ X.cell? ⟨g, o + 6 + 1, none⟩ = some (.string ⟨#[49]⟩) ∧ X.cell? ⟨g, o + 6 + 2, none⟩ = some (.int .i64 0) ∧ X.cell? ⟨g, o + 6 + 3, none⟩ = some (.int .i64 2) ∧ X.cell? ⟨g, o + 6 + 4, none⟩ = some (.int .i64 3) ∧ X.cell? ⟨g, o + 6 + 5, none⟩ = some (.bool true) ∧ Below W.heap.size W X from fun X hX => ⟨(hX.cell (p := ⟨g, o, none⟩) hgl).trans p0, (hX.cell (p := ⟨g, o + 1, none⟩) hgl).trans p1, (hX.cell (p := ⟨g, o + 2, none⟩) hgl).trans p2, (hX.cell (p := ⟨g, o + 3, none⟩) hgl).trans p3, (hX.cell (p := ⟨g, o + 4, none⟩) hgl).trans p4, (hX.cell (p := ⟨g, o + 5, none⟩) hgl).trans p5, (hX.cell (p := ⟨g, o + 6, none⟩) hgl).trans q0, (hX.cell (p := ⟨g, o + 6 + 1, none⟩) hgl).trans q1, (hX.cell (p := ⟨g, o + 6 + 2, none⟩) hgl).trans q2, (hX.cell (p := ⟨g, o + 6 + 3, none⟩) hgl).trans q3, (hX.cell (p := ⟨g, o + 6 + 4, none⟩) hgl).trans q4, (hX.cell (p := ⟨g, o + 6 + 5, none⟩) hgl).trans q5, hX⟩)
  have hW1 := hW.drew
  have hWA : ∀ o, Below W.heap.size W (W.alloc o).drew := fun o => (hW.alloc (Nat.le_refl _) o).drew
  refine wp_sec 6 awBody rfl ?_
  conv => arg 2; whnf
  go_region_held3 (fun w' => w'.cell? ⟨g, o, none⟩ = some (.int .i64 1) ∧ w'.cell? ⟨g, o + 1, none⟩ = some (.string ⟨#[97]⟩) ∧ w'.cell? ⟨g, o + 2, none⟩ = some (.int .i64 0) ∧ w'.cell? ⟨g, o + 3, none⟩ = some (.int .i64 0) ∧ w'.cell? ⟨g, o + 4, none⟩ = some (.int .i64 1) ∧ w'.cell? ⟨g, o + 5, none⟩ = some (.bool false) ∧ w'.cell? ⟨g, o + 6, none⟩ = some (.int .i64 2) ∧ w'.cell? ⟨g, o + 6 + 1, none⟩ = some (.string ⟨#[49]⟩) ∧ w'.cell? ⟨g, o + 6 + 2, none⟩ = some (.int .i64 0) ∧ w'.cell? ⟨g, o + 6 + 3, none⟩ = some (.int .i64 2) ∧ w'.cell? ⟨g, o + 6 + 4, none⟩ = some (.int .i64 3) ∧ w'.cell? ⟨g, o + 6 + 5, none⟩ = some (.bool true) ∧ Below W.heap.size W w')
    ((refine HS0.out _ ?_
      first
       | with_reducible exact hW1
       | with_reducible exact hWc
       | with_reducible exact hWcA _
       | with_reducible exact hWA _
       | with_reducible exact six_below hWc (Nat.le_refl _) _ _ _ _ _ _
        | exact six_below hWc (Nat.le_refl _) _ _ _ _ _ _))
    ((go_at_call 13; go_split_ands; refine (paste_6 _ (HGW.out.later (by assumption))).mono ?_; rintro e wc ⟨rfl, hBc⟩; have hWc : Below W.heap.size W wc := (by with_reducible exact Below.trans (by assumption) (hBc.mono (Below.size (by assumption)))); first | (have hz : wc.heap[W.heap.size]? = some (.cells #[.int .i64 0, .string ⟨#[]⟩, .int .i64 0, .int .i64 0, .int .i64 0, .bool false] 26 (0, 0)) := (hBc.block _ (by simp)).trans (heap_alloc_new W _); obtain ⟨b0x, b1x, b2x, b3x, b4x, b5x⟩ := box6_cells hz; have qz : ∀ i, wc.frozen? ⟨W.heap.size, i, none⟩ = false := fun i => (by simp [World.frozen?, hz]); have HZ := Lib.hid hz; clear hz) | skip; have hWcA : ∀ o, Below W.heap.size W (wc.alloc o) := fun o => hWc.alloc hWc.size o; clear hBc))
  · have hF := hWcA (.cells #[.int .i64 1, .string ⟨#[97, 49]⟩, .int .i64 0, .int .i64 0, .int .i64 1, .bool false] 26)
    exact aw7 w _ b3 g o cap wc.heap.size HG.out (Below.then HB.out hF) ((hF.block _ (lt_of_block K3.out)).trans K3.out) (HD.out.below hF) (heap_alloc_new wc _) _ _ _ _ _ _ _ _ _ _ _ _ _ _ _ _ _ _ _ _ _ _ _ _ _ _ _ _ _ _ _ _ _ _ _ _ _ _ _ _ _ _ _ _ _ _ _ _ _ _ _ _ _ _ _ _ _ _ _ _ _ _ _ _ _ _ _ _ _ _ _ _ _ _ _ _ _ _ _ _ _ _ _ _ _ _ _ _ _ _ _ _ _ _ _ _ _ _ _ _ _ _ _ _ _ _ _ _ _ _ _ _ _ _ _ _ _ _ _ _ _ _ _ _ _ _ _ _ _ _ _ _ _ _ _ _ _
  · have hF := six_below hWc (Nat.le_refl _) (.int .i64 1) (.string ⟨#[97, 49]⟩) (.int .i64 0) (.int .i64 0) (.int .i64 1) (.bool false)
    exact aw7 w _ b3 g o cap W.heap.size HG.out (Below.then HB.out hF) ((hF.block _ (lt_of_block K3.out)).trans K3.out) (HD.out.below hF) (six_set HZ.out _ _ _ _ _ _) _ _ _ _ _ _ _ _ _ _ _ _ _ _ _ _ _ _ _ _ _ _ _ _ _ _ _ _ _ _ _ _ _ _ _ _ _ _ _ _ _ _ _ _ _ _ _ _ _ _ _ _ _ _ _ _ _ _ _ _ _ _ _ _ _ _ _ _ _ _ _ _ _ _ _ _ _ _ _ _ _ _ _ _ _ _ _ _ _ _ _ _ _ _ _ _ _ _ _ _ _ _ _ _ _ _ _ _ _ _ _ _ _ _ _ _ _ _ _ _ _ _ _ _ _ _ _ _ _ _ _ _ _ _ _ _ _
end Go.Proofs.YtlkcmegjbdibcaaDoor
