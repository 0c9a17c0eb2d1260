/- What is proved: the chapter's examples are as it says (awake), in whatever memory. -/
import Derived.Test.YtlkcmegjbdibcaaDoorZ6
import Derived.Test.YtlkcmegjbdibcaaDoorZ7
import Derived.Test.YtlkcmegjbdibcaaDoorZ8
import Derived.Deep.RegionHeld3
namespace Go.Proofs.YtlkcmegjbdibcaaDoor
open Go.RowKit Go.Shelf

noncomputable def awBody : Code := Tryd.f8.body.getD .skip
def awToks : List K := [⟨1, ⟨#[97]⟩, 0, 0, 1, false⟩, ⟨2, ⟨#[49]⟩, 0, 2, 3, true⟩, ⟨5, ⟨#[43]⟩, 0, 4, 5, true⟩, ⟨5, ⟨#[43]⟩, 0, 6, 7, true⟩, ⟨5, ⟨#[47]⟩, 0, 8, 9, true⟩, ⟨5, ⟨#[47]⟩, 0, 10, 11, true⟩]
def unqLit (s : List UInt8) (t : List UInt8) (b : Bool) : Prop := unqOut (Gl.unquote s) = .tuple #[.string ⟨t.toArray⟩, .bool b]
theorem aw_toks : (Lx.tk false (Sp.left 0 (⟨#[97, 32, 49, 32, 43, 32, 43, 32, 47, 32, 47]⟩ : ByteArray).data.toList)).map (ofT 0) = awToks := by kernel_rfl
theorem unquote_lit (s : ByteArray) (v : Value) (hs : s.size ≤ 1000) (h : unqOut (Gl.unquote s.data.toList) = v) (w : World) : Calls Tryd.prog 15 #[.string s] w fun e w' => e = .returned v ∧ Below w.heap.size w w' := by
  rw [← h]; exact gunquote_any s w (by omega)
theorem paste_lit (a b : K) (v : Value) (hs : a.text.size + b.text.size ≤ 1000) (h : pasteV a (oneOf (a.text.data.toList ++ b.text.data.toList)) = v) (w : World) (hG : Glob w) : Calls Tryd.prog 13 #[kAgg a, kAgg b] w fun e w' => e = .returned v ∧ Below w.heap.size w w' := by
  rw [← h]; exact gpaste_any a b w hG (by omega)
theorem unq_p : unqOut (Gl.unquote (⟨#[34, 97, 92, 34, 98, 34]⟩ : ByteArray).data.toList) = .tuple #[.string ⟨#[97, 34, 98]⟩, .bool true] := by kernel_rfl
theorem unq_q : unqOut (Gl.unquote (⟨#[34, 97, 34, 98, 34]⟩ : ByteArray).data.toList) = .tuple #[.string ⟨#[]⟩, .bool false] := by kernel_rfl
theorem unq_r : unqOut (Gl.unquote (⟨#[97]⟩ : ByteArray).data.toList) = .tuple #[.string ⟨#[]⟩, .bool false] := by kernel_rfl

set_option maxRecDepth 100000 in
set_option maxHeartbeats 4000000 in
theorem aw13 (w W : World) (b3 b5 b7 : Nat) (_ : Glob w) (hB : Below w.heap.size w W) (k3 : W.heap[b3]? = some (.cells #[.int .i64 4, .string ⟨#[34, 102, 40, 92, 34, 120, 92, 92, 110, 92, 34, 44, 32, 39, 92, 34, 39, 41, 34]⟩, .int .i64 0, .int .i64 0, .int .i64 0, .bool false] 26 (0, 0))) (k5 : W.heap[b5]? = some (.cells #[.int .i64 1, .string ⟨#[97, 49]⟩, .int .i64 0, .int .i64 0, .int .i64 1, .bool false] 26 (0, 0))) (k7 : W.heap[b7]? = some (.cells #[.int .i64 5, .string ⟨#[43, 43]⟩, .int .i64 0, .int .i64 4, .int .i64 5, .bool true] 26 (0, 0)))
    (c0 c4 c9 c11 c15 c17 c19 c20 c21 c22 c23 c24 c25 c26 c27 c28 c29 c30 c31 c32 c33 c34 c35 c36 c37 c38 c39 c40 c41 c42 c43 c44 c45 c46 c47 c48 c49 c50 c51 c52 c53 c54 c55 c56 c57 c58 c59 c60 c61 c62 c63 c64 c65 c66 c67 c68 c69 c70 c71 c72 c73 c74 c75 c76 c77 c78 c79 c80 c81 c82 c83 c84 c85 c86 c87 c88 c89 c90 c91 c92 c93 c94 c95 c96 c97 c98 c99 c100 c101 c102 c103 c104 c105 c106 c107 c108 c109 c110 c111 c112 c113 c114 c115 c116 c117 c118 c119 c120 c121 c122 c123 c124 c125 c126 c127 c128 c129 c130 c131 c132 c133 c134 c135 c136 c137 c138 c139 c140 c141 c142 : Value) :
    Code.wp Tryd.prog (secs 13 awBody) (bodyPost Tryd.prog Tryd.f8 (TruePost w)) ⟨#[c0, .string ⟨#[97, 32, 43, 98]⟩, .string ⟨#[97]⟩, .pointer (some ⟨b3, 0, none⟩), c4, .pointer (some ⟨b5, 0, none⟩), .int .i64 0, .pointer (some ⟨b7, 0, none⟩), .int .i64 0, c9, .int .i64 70, c11, .int .i64 70, .string ⟨#[97, 34, 98]⟩, .bool true, c15, .bool false, c17, .bool false, c19, c20, c21, c22, c23, c24, c25, c26, c27, c28, c29, c30, c31, c32, c33, c34, c35, c36, c37, c38, c39, c40, c41, c42, c43, c44, c45, c46, c47, c48, c49, c50, c51, c52, c53, c54, c55, c56, c57, c58, c59, c60, c61, c62, c63, c64, c65, c66, c67, c68, c69, c70, c71, c72, c73, c74, c75, c76, c77, c78, c79, c80, c81, c82, c83, c84, c85, c86, c87, c88, c89, c90, c91, c92, c93, c94, c95, c96, c97, c98, c99, c100, c101, c102, c103, c104, c105, c106, c107, c108, c109, c110, c111, c112, c113, c114, c115, c116, c117, c118, c119, c120, c121, c122, c123, c124, c125, c126, c127, c128, c129, c130, c131, c132, c133, c134, c135, c136, c137, c138, c139, c140, c141, c142], []⟩ W := by
  obtain ⟨x0, x1, x2, x3, x4, x5⟩ := box6_cells k3
  obtain ⟨y0, y1, y2, y3, y4, y5⟩ := box6_cells k5
  obtain ⟨z0, z1, z2, z3, z4, z5⟩ := box6_cells k7
  have HB := Lib.hid hB
  clear k3 k5 k7 hB x2 x3 x4 x5 y2 y3 y4 y5 z2 z3 z4 z5
  refine wp_sec 13 awBody rfl ?_
  conv => arg 2; whnf
  go_wp2_with fail
  conv => arg 2; whnf
  go_wp2_with fail
  go_ret
  exact ⟨rfl, HB.out⟩

set_option maxRecDepth 100000 in
set_option maxHeartbeats 4000000 in
theorem aw12 (w W : World) (b3 b5 b7 : Nat) (hG : Glob w) (hB : Below w.heap.size w W) (k3 : W.heap[b3]? = some (.cells #[.int .i64 4, .string ⟨#[34, 102, 40, 92, 34, 120, 92, 92, 110, 92, 34, 44, 32, 39, 92, 34, 39, 41, 34]⟩, .int .i64 0, .int .i64 0, .int .i64 0, .bool false] 26 (0, 0))) (k5 : W.heap[b5]? = some (.cells #[.int .i64 1, .string ⟨#[97, 49]⟩, .int .i64 0, .int .i64 0, .int .i64 1, .bool false] 26 (0, 0))) (k7 : W.heap[b7]? = some (.cells #[.int .i64 5, .string ⟨#[43, 43]⟩, .int .i64 0, .int .i64 4, .int .i64 5, .bool true] 26 (0, 0)))
    (c0 c4 c9 c11 c15 c17 c18 c19 c20 c21 c22 c23 c24 c25 c26 c27 c28 c29 c30 c31 c32 c33 c34 c35 c36 c37 c38 c39 c40 c41 c42 c43 c44 c45 c46 c47 c48 c49 c50 c51 c52 c53 c54 c55 c56 c57 c58 c59 c60 c61 c62 c63 c64 c65 c66 c67 c68 c69 c70 c71 c72 c73 c74 c75 c76 c77 c78 c79 c80 c81 c82 c83 c84 c85 c86 c87 c88 c89 c90 c91 c92 c93 c94 c95 c96 c97 c98 c99 c100 c101 c102 c103 c104 c105 c106 c107 c108 c109 c110 c111 c112 c113 c114 c115 c116 c117 c118 c119 c120 c121 c122 c123 c124 c125 c126 c127 c128 c129 c130 c131 c132 c133 c134 c135 c136 c137 c138 c139 c140 c141 c142 : Value) :
    Code.wp Tryd.prog (secs 12 awBody) (bodyPost Tryd.prog Tryd.f8 (TruePost w)) ⟨#[c0, .string ⟨#[97, 32, 43, 98]⟩, .string ⟨#[97]⟩, .pointer (some ⟨b3, 0, none⟩), c4, .pointer (some ⟨b5, 0, none⟩), .int .i64 0, .pointer (some ⟨b7, 0, none⟩), .int .i64 0, c9, .int .i64 70, c11, .int .i64 70, .string ⟨#[97, 34, 98]⟩, .bool true, c15, .bool false, c17, c18, c19, c20, c21, c22, c23, c24, c25, c26, c27, c28, c29, c30, c31, c32, c33, c34, c35, c36, c37, c38, c39, c40, c41, c42, c43, c44, c45, c46, c47, c48, c49, c50, c51, c52, c53, c54, c55, c56, c57, c58, c59, c60, c61, c62, c63, c64, c65, c66, c67, c68, c69, c70, c71, c72, c73, c74, c75, c76, c77, c78, c79, c80, c81, c82, c83, c84, c85, c86, c87, c88, c89, c90, c91, c92, c93, c94, c95, c96, c97, c98, c99, c100, c101, c102, c103, c104, c105, c106, c107, c108, c109, c110, c111, c112, c113, c114, c115, c116, c117, c118, c119, c120, c121, c122, c123, c124, c125, c126, c127, c128, c129, c130, c131, c132, c133, c134, c135, c136, c137, c138, c139, c140, c141, c142], []⟩ W := by
  refine wp_sec 12 awBody rfl ?_
  conv => arg 2; whnf
  go_wp2_with fail
  refine (unquote_lit ⟨#[97]⟩ _ (by decide) unq_r _).mono ?_
  rintro e W1 ⟨rfl, hB1⟩
  replace k3 := (hB1.block _ (lt_of_block k3)).trans k3
  replace k5 := (hB1.block _ (lt_of_block k5)).trans k5
  replace k7 := (hB1.block _ (lt_of_block k7)).trans k7
  replace hB := Below.then hB hB1
  have K3 := Lib.hid k3
  have K5 := Lib.hid k5
  have K7 := Lib.hid k7
  have HB := Lib.hid hB
  clear k3 k5 k7 hB hB1
  go_wp2_with fail
  exact aw13 w W1 b3 b5 b7 hG HB.out K3.out K5.out K7.out _ _ _ _ _ _ _ _ _ _ _ _ _ _ _ _ _ _ _ _ _ _ _ _ _ _ _ _ _ _ _ _ _ _ _ _ _ _ _ _ _ _ _ _ _ _ _ _ _ _ _ _ _ _ _ _ _ _ _ _ _ _ _ _ _ _ _ _ _ _ _ _ _ _ _ _ _ _ _ _ _ _ _ _ _ _ _ _ _ _ _ _ _ _ _ _ _ _ _ _ _ _ _ _ _ _ _ _ _ _ _ _ _ _ _ _ _ _ _ _ _ _ _ _ _ _ _ _ _ _

set_option maxRecDepth 100000 in
set_option maxHeartbeats 4000000 in
theorem aw11 (w W : World) (b3 b5 b7 : Nat) (hG : Glob w) (hB : Below w.heap.size w W) (k3 : W.heap[b3]? = some (.cells #[.int .i64 4, .string ⟨#[34, 102, 40, 92, 34, 120, 92, 92, 110, 92, 34, 44, 32, 39, 92, 34, 39, 41, 34]⟩, .int .i64 0, .int .i64 0, .int .i64 0, .bool false] 26 (0, 0))) (k5 : W.heap[b5]? = some (.cells #[.int .i64 1, .string ⟨#[97, 49]⟩, .int .i64 0, .int .i64 0, .int .i64 1, .bool false] 26 (0, 0))) (k7 : W.heap[b7]? = some (.cells #[.int .i64 5, .string ⟨#[43, 43]⟩, .int .i64 0, .int .i64 4, .int .i64 5, .bool true] 26 (0, 0)))
    (c0 c4 c9 c11 c15 c16 c17 c18 c19 c20 c21 c22 c23 c24 c25 c26 c27 c28 c29 c30 c31 c32 c33 c34 c35 c36 c37 c38 c39 c40 c41 c42 c43 c44 c45 c46 c47 c48 c49 c50 c51 c52 c53 c54 c55 c56 c57 c58 c59 c60 c61 c62 c63 c64 c65 c66 c67 c68 c69 c70 c71 c72 c73 c74 c75 c76 c77 c78 c79 c80 c81 c82 c83 c84 c85 c86 c87 c88 c89 c90 c91 c92 c93 c94 c95 c96 c97 c98 c99 c100 c101 c102 c103 c104 c105 c106 c107 c108 c109 c110 c111 c112 c113 c114 c115 c116 c117 c118 c119 c120 c121 c122 c123 c124 c125 c126 c127 c128 c129 c130 c131 c132 c133 c134 c135 c136 c137 c138 c139 c140 c141 c142 : Value) :
    Code.wp Tryd.prog (secs 11 awBody) (bodyPost Tryd.prog Tryd.f8 (TruePost w)) ⟨#[c0, .string ⟨#[97, 32, 43, 98]⟩, .string ⟨#[97]⟩, .pointer (some ⟨b3, 0, none⟩), c4, .pointer (some ⟨b5, 0, none⟩), .int .i64 0, .pointer (some ⟨b7, 0, none⟩), .int .i64 0, c9, .int .i64 70, c11, .int .i64 70, .string ⟨#[97, 34, 98]⟩, .bool true, c15, c16, c17, c18, c19, c20, c21, c22, c23, c24, c25, c26, c27, c28, c29, c30, c31, c32, c33, c34, c35, c36, c37, c38, c39, c40, c41, c42, c43, c44, c45, c46, c47, c48, c49, c50, c51, c52, c53, c54, c55, c56, c57, c58, c59, c60, c61, c62, c63, c64, c65, c66, c67, c68, c69, c70, c71, c72, c73, c74, c75, c76, c77, c78, c79, c80, c81, c82, c83, c84, c85, c86, c87, c88, c89, c90, c91, c92, c93, c94, c95, c96, c97, c98, c99, c100, c101, c102, c103, c104, c105, c106, c107, c108, c109, c110, c111, c112, c113, c114, c115, c116, c117, c118, c119, c120, c121, c122, c123, c124, c125, c126, c127, c128, c129, c130, c131, c132, c133, c134, c135, c136, c137, c138, c139, c140, c141, c142], []⟩ W := by
  refine wp_sec 11 awBody rfl ?_
  conv => arg 2; whnf
  go_wp2_with fail
  refine (unquote_lit ⟨#[34, 97, 34, 98, 34]⟩ _ (by decide) unq_q _).mono ?_
  rintro e W1 ⟨rfl, hB1⟩
  replace k3 := (hB1.block _ (lt_of_block k3)).trans k3
  replace k5 := (hB1.block _ (lt_of_block k5)).trans k5
  replace k7 := (hB1.block _ (lt_of_block k7)).trans k7
  replace hB := Below.then hB hB1
  have K3 := Lib.hid k3
  have K5 := Lib.hid k5
  have K7 := Lib.hid k7
  have HB := Lib.hid hB
  clear k3 k5 k7 hB hB1
  go_wp2_with fail
  exact aw12 w W1 b3 b5 b7 hG HB.out K3.out K5.out K7.out _ _ _ _ _ _ _ _ _ _ _ _ _ _ _ _ _ _ _ _ _ _ _ _ _ _ _ _ _ _ _ _ _ _ _ _ _ _ _ _ _ _ _ _ _ _ _ _ _ _ _ _ _ _ _ _ _ _ _ _ _ _ _ _ _ _ _ _ _ _ _ _ _ _ _ _ _ _ _ _ _ _ _ _ _ _ _ _ _ _ _ _ _ _ _ _ _ _ _ _ _ _ _ _ _ _ _ _ _ _ _ _ _ _ _ _ _ _ _ _ _ _ _ _ _ _ _ _ _ _ _

set_option maxRecDepth 100000 in
set_option maxHeartbeats 4000000 in
theorem aw10 (w W : World) (b3 b5 b7 : Nat) (hG : Glob w) (hB : Below w.heap.size w W) (k3 : W.heap[b3]? = some (.cells #[.int .i64 4, .string ⟨#[34, 102, 40, 92, 34, 120, 92, 92, 110, 92, 34, 44, 32, 39, 92, 34, 39, 41, 34]⟩, .int .i64 0, .int .i64 0, .int .i64 0, .bool false] 26 (0, 0))) (k5 : W.heap[b5]? = some (.cells #[.int .i64 1, .string ⟨#[97, 49]⟩, .int .i64 0, .int .i64 0, .int .i64 1, .bool false] 26 (0, 0))) (k7 : W.heap[b7]? = some (.cells #[.int .i64 5, .string ⟨#[43, 43]⟩, .int .i64 0, .int .i64 4, .int .i64 5, .bool true] 26 (0, 0)))
    (c0 c4 c9 c11 c13 c14 c15 c16 c17 c18 c19 c20 c21 c22 c23 c24 c25 c26 c27 c28 c29 c30 c31 c32 c33 c34 c35 c36 c37 c38 c39 c40 c41 c42 c43 c44 c45 c46 c47 c48 c49 c50 c51 c52 c53 c54 c55 c56 c57 c58 c59 c60 c61 c62 c63 c64 c65 c66 c67 c68 c69 c70 c71 c72 c73 c74 c75 c76 c77 c78 c79 c80 c81 c82 c83 c84 c85 c86 c87 c88 c89 c90 c91 c92 c93 c94 c95 c96 c97 c98 c99 c100 c101 c102 c103 c104 c105 c106 c107 c108 c109 c110 c111 c112 c113 c114 c115 c116 c117 c118 c119 c120 c121 c122 c123 c124 c125 c126 c127 c128 c129 c130 c131 c132 c133 c134 c135 c136 c137 c138 c139 c140 c141 c142 : Value) :
    Code.wp Tryd.prog (secs 10 awBody) (bodyPost Tryd.prog Tryd.f8 (TruePost w)) ⟨#[c0, .string ⟨#[97, 32, 43, 98]⟩, .string ⟨#[97]⟩, .pointer (some ⟨b3, 0, none⟩), c4, .pointer (some ⟨b5, 0, none⟩), .int .i64 0, .pointer (some ⟨b7, 0, none⟩), .int .i64 0, c9, .int .i64 70, c11, .int .i64 70, c13, c14, c15, c16, c17, c18, c19, c20, c21, c22, c23, c24, c25, c26, c27, c28, c29, c30, c31, c32, c33, c34, c35, c36, c37, c38, c39, c40, c41, c42, c43, c44, c45, c46, c47, c48, c49, c50, c51, c52, c53, c54, c55, c56, c57, c58, c59, c60, c61, c62, c63, c64, c65, c66, c67, c68, c69, c70, c71, c72, c73, c74, c75, c76, c77, c78, c79, c80, c81, c82, c83, c84, c85, c86, c87, c88, c89, c90, c91, c92, c93, c94, c95, c96, c97, c98, c99, c100, c101, c102, c103, c104, c105, c106, c107, c108, c109, c110, c111, c112, c113, c114, c115, c116, c117, c118, c119, c120, c121, c122, c123, c124, c125, c126, c127, c128, c129, c130, c131, c132, c133, c134, c135, c136, c137, c138, c139, c140, c141, c142], []⟩ W := by
  refine wp_sec 10 awBody rfl ?_
  conv => arg 2; whnf
  go_wp2_with fail
  refine (unquote_lit ⟨#[34, 97, 92, 34, 98, 34]⟩ _ (by decide) unq_p _).mono ?_
  rintro e W1 ⟨rfl, hB1⟩
  replace k3 := (hB1.block _ (lt_of_block k3)).trans k3
  replace k5 := (hB1.block _ (lt_of_block k5)).trans k5
  replace k7 := (hB1.block _ (lt_of_block k7)).trans k7
  replace hB := Below.then hB hB1
  have K3 := Lib.hid k3
  have K5 := Lib.hid k5
  have K7 := Lib.hid k7
  have HB := Lib.hid hB
  clear k3 k5 k7 hB hB1
  go_wp2_with fail
  exact aw11 w W1 b3 b5 b7 hG HB.out K3.out K5.out K7.out _ _ _ _ _ _ _ _ _ _ _ _ _ _ _ _ _ _ _ _ _ _ _ _ _ _ _ _ _ _ _ _ _ _ _ _ _ _ _ _ _ _ _ _ _ _ _ _ _ _ _ _ _ _ _ _ _ _ _ _ _ _ _ _ _ _ _ _ _ _ _ _ _ _ _ _ _ _ _ _ _ _ _ _ _ _ _ _ _ _ _ _ _ _ _ _ _ _ _ _ _ _ _ _ _ _ _ _ _ _ _ _ _ _ _ _ _ _ _ _ _ _ _ _ _ _ _ _ _ _ _ _
end Go.Proofs.YtlkcmegjbdibcaaDoor
