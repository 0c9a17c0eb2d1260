/- What is proved: the chapter's examples are as it says (awake), in whatever memory: the whole. -/
import Derived.Test.YtlkcmegjbdibcaaDoorZ10
import Derived.Test.YtlkcmegjbdibcaaDoorY5
namespace Go.Proofs.YtlkcmegjbdibcaaDoor
open Go.RowKit Go.Shelf

theorem gtext_lit (s X : ByteArray) (hs : s.size ≤ 500) (h : (⟨(Gl.txt false false false ((Lx.tk false (Sp.left 0 s.data.toList)).map (ofT 0))).toArray⟩ : ByteArray) = X) (v : Value) (w : World) (hv : Toks w v 0 (Lx.tk false (Sp.left 0 s.data.toList))) :
    Calls Tryd.prog 9 #[v] w fun e w' => e = .returned (.string X) ∧ Below w.heap.size w w' := by
  have g0 : s.data.toList.length = s.size := size_list s
  have h1 := Gl.toksOf_len s.data.toList
  have h2 := Gl.toksOf_txt s.data.toList false
  unfold Gl.toksOf at h1 h2
  rw [← h]
  exact gtext_any _ v w hv.ks (by rw [List.length_map]; omega) (Nat.le_trans h2 (Nat.le_trans (Nat.mul_le_mul (show s.data.toList.length ≤ 500 by omega) (show 2 * s.data.toList.length + 1 ≤ 1001 by omega)) (by decide)))
theorem gstring_lit (s : ByteArray) (X : Value) (hs : s.size ≤ 500) (h : strTok (34 :: (Gl.txt true false false ((Lx.tk false (Sp.left 0 s.data.toList)).map (ofT 0)) ++ [34])) = X) (v : Value) (w : World) (hG : Glob w) (hv : Toks w v 0 (Lx.tk false (Sp.left 0 s.data.toList))) :
    Calls Tryd.prog 10 #[v] w fun e w' => e = .returned X ∧ Below w.heap.size w w' := by
  have g0 : s.data.toList.length = s.size := size_list s
  have h1 := Gl.toksOf_len s.data.toList
  have h2 := Gl.toksOf_txt s.data.toList true
  have h3 := Gl.toksOf_short s.data.toList
  unfold Gl.toksOf at h1 h2 h3
  rw [← h]
  refine gstring_any _ v w hG hv.ks (by rw [List.length_map]; omega) (fun t ht => ?_) (Nat.le_trans h2 (Nat.le_trans (Nat.mul_le_mul (show s.data.toList.length ≤ 500 by omega) (show 2 * s.data.toList.length + 1 ≤ 1001 by omega)) (by decide)))
  obtain ⟨x, hx, rfl⟩ := List.mem_map.1 ht
  have := h3 x hx
  show x.text.length ≤ _
  omega
theorem aw_t1 : (⟨(Gl.txt false false false ((Lx.tk false (Sp.left 0 (⟨#[97, 32, 32, 43, 98]⟩ : ByteArray).data.toList)).map (ofT 0))).toArray⟩ : ByteArray) = ⟨#[97, 32, 43, 98]⟩ := by kernel_rfl
theorem aw_t2 : (⟨(Gl.txt false false false ((Lx.tk false (Sp.left 0 (⟨#[32, 97]⟩ : ByteArray).data.toList)).map (ofT 0))).toArray⟩ : ByteArray) = ⟨#[97]⟩ := by kernel_rfl
theorem aw_s : strTok (34 :: (Gl.txt true false false ((Lx.tk false (Sp.left 0 (⟨#[102, 40, 34, 120, 92, 110, 34, 44, 32, 39, 34, 39, 41]⟩ : ByteArray).data.toList)).map (ofT 0)) ++ [34])) = .agg #[.int .i64 4, .string ⟨#[34, 102, 40, 92, 34, 120, 92, 92, 110, 92, 34, 44, 32, 39, 92, 34, 39, 41, 34]⟩, .int .i64 0, .int .i64 0, .int .i64 0, .bool false] := by kernel_rfl

set_option maxRecDepth 100000 in
set_option maxHeartbeats 4000000 in
theorem aw5 (w W : World) (b3 g o cap : Nat) (hG : Glob w) (hB : Below w.heap.size w W) (k3 : W.heap[b3]? = some (.cells #[.int .i64 4, .string ⟨#[34, 102, 40, 92, 34, 120, 92, 92, 110, 92, 34, 44, 32, 39, 92, 34, 39, 41, 34]⟩, .int .i64 0, .int .i64 0, .int .i64 0, .bool false] 26 (0, 0))) (hD : Ks W (.slice (some ⟨g, o, none⟩) 6 cap) awToks)
    (c0 c5 c6 c7 c8 c9 c10 c11 c12 c13 c14 c15 c16 c17 c18 c19 c20 c21 c22 c23 c24 c25 c26 c27 c28 c29 c30 c31 c32 c33 c34 c35 c36 c37 c38 c39 c40 c41 c42 c43 c44 c45 c46 c47 c48 c49 c50 c51 c52 c53 c54 c55 c56 c57 c58 c59 c60 c61 c62 c63 c64 c65 c66 c67 c68 c69 c70 c71 c72 c73 c74 c75 c76 c77 c78 c79 c80 c81 c82 c83 c84 c85 c86 c87 c88 c89 c90 c91 c92 c93 c94 c95 c96 c97 c98 c99 c100 c101 c102 c103 c104 c105 c106 c107 c108 c109 c110 c111 c112 c113 c114 c115 c116 c117 c118 c119 c120 c121 c122 c123 c124 c125 c126 c127 c128 c129 c130 c131 c132 c133 c134 c135 c136 c137 c138 c139 c140 c141 c142 : Value) :
    Code.wp Tryd.prog (secs 5 awBody) (bodyPost Tryd.prog Tryd.f8 (TruePost w)) ⟨#[c0, .string ⟨#[97, 32, 43, 98]⟩, .string ⟨#[97]⟩, .pointer (some ⟨b3, 0, none⟩), .slice (some ⟨g, o, none⟩) 6 cap, c5, c6, c7, c8, c9, c10, c11, c12, c13, c14, c15, c16, c17, c18, c19, c20, c21, c22, c23, c24, c25, c26, c27, c28, c29, c30, c31, c32, c33, c34, c35, c36, c37, c38, c39, c40, c41, c42, c43, c44, c45, c46, c47, c48, c49, c50, c51, c52, c53, c54, c55, c56, c57, c58, c59, c60, c61, c62, c63, c64, c65, c66, c67, c68, c69, c70, c71, c72, c73, c74, c75, c76, c77, c78, c79, c80, c81, c82, c83, c84, c85, c86, c87, c88, c89, c90, c91, c92, c93, c94, c95, c96, c97, c98, c99, c100, c101, c102, c103, c104, c105, c106, c107, c108, c109, c110, c111, c112, c113, c114, c115, c116, c117, c118, c119, c120, c121, c122, c123, c124, c125, c126, c127, c128, c129, c130, c131, c132, c133, c134, c135, c136, c137, c138, c139, c140, c141, c142], []⟩ W := by
  have hl6 : awToks.length = 6 := rfl
  have K3 := Lib.hid k3
  have HD := Lib.hid hD
  have HB := Lib.hid hB
  clear k3 hD hB
  refine wp_sec 5 awBody rfl ?_
  conv => arg 2; whnf
  go_wp2_with fail
  exact aw6 w W b3 g o cap hG HB.out K3.out HD.out _ _ _ _ _ _ _ _ _ _ _ _ _ _ _ _ _ _ _ _ _ _ _ _ _ _ _ _ _ _ _ _ _ _ _ _ _ _ _ _ _ _ _ _ _ _ _ _ _ _ _ _ _ _ _ _ _ _ _ _ _ _ _ _ _ _ _ _ _ _ _ _ _ _ _ _ _ _ _ _ _ _ _ _ _ _ _ _ _ _ _ _ _ _ _ _ _ _ _ _ _ _ _ _ _ _ _ _ _ _ _ _ _ _ _ _ _ _ _ _ _ _ _ _ _ _ _ _ _ _ _ _ _ _ _ _ _ _ _

set_option maxRecDepth 100000 in
set_option maxHeartbeats 4000000 in
theorem aw4 (w W : World) (b3 : Nat) (hG : Glob w) (hB : Below w.heap.size w W) (k3 : W.heap[b3]? = some (.cells #[.int .i64 4, .string ⟨#[34, 102, 40, 92, 34, 120, 92, 92, 110, 92, 34, 44, 32, 39, 92, 34, 39, 41, 34]⟩, .int .i64 0, .int .i64 0, .int .i64 0, .bool false] 26 (0, 0)))
    (c0 c4 c5 c6 c7 c8 c9 c10 c11 c12 c13 c14 c15 c16 c17 c18 c19 c20 c21 c22 c23 c24 c25 c26 c27 c28 c29 c30 c31 c32 c33 c34 c35 c36 c37 c38 c39 c40 c41 c42 c43 c44 c45 c46 c47 c48 c49 c50 c51 c52 c53 c54 c55 c56 c57 c58 c59 c60 c61 c62 c63 c64 c65 c66 c67 c68 c69 c70 c71 c72 c73 c74 c75 c76 c77 c78 c79 c80 c81 c82 c83 c84 c85 c86 c87 c88 c89 c90 c91 c92 c93 c94 c95 c96 c97 c98 c99 c100 c101 c102 c103 c104 c105 c106 c107 c108 c109 c110 c111 c112 c113 c114 c115 c116 c117 c118 c119 c120 c121 c122 c123 c124 c125 c126 c127 c128 c129 c130 c131 c132 c133 c134 c135 c136 c137 c138 c139 c140 c141 c142 : Value) :
    Code.wp Tryd.prog (secs 4 awBody) (bodyPost Tryd.prog Tryd.f8 (TruePost w)) ⟨#[c0, .string ⟨#[97, 32, 43, 98]⟩, .string ⟨#[97]⟩, .pointer (some ⟨b3, 0, none⟩), c4, c5, c6, c7, c8, c9, c10, c11, c12, c13, c14, c15, c16, c17, c18, c19, c20, c21, c22, c23, c24, c25, c26, c27, c28, c29, c30, c31, c32, c33, c34, c35, c36, c37, c38, c39, c40, c41, c42, c43, c44, c45, c46, c47, c48, c49, c50, c51, c52, c53, c54, c55, c56, c57, c58, c59, c60, c61, c62, c63, c64, c65, c66, c67, c68, c69, c70, c71, c72, c73, c74, c75, c76, c77, c78, c79, c80, c81, c82, c83, c84, c85, c86, c87, c88, c89, c90, c91, c92, c93, c94, c95, c96, c97, c98, c99, c100, c101, c102, c103, c104, c105, c106, c107, c108, c109, c110, c111, c112, c113, c114, c115, c116, c117, c118, c119, c120, c121, c122, c123, c124, c125, c126, c127, c128, c129, c130, c131, c132, c133, c134, c135, c136, c137, c138, c139, c140, c141, c142], []⟩ W := by
  have K3 := Lib.hid k3
  have HB := Lib.hid hB
  have HG := Lib.hid hG
  clear k3 hB hG
  refine wp_sec 4 awBody rfl ?_
  conv => arg 2; whnf
  go_wp2_with fail
  refine (tokens_any 0 ⟨#[97, 32, 49, 32, 43, 32, 43, 32, 47, 32, 47]⟩ (by decide) _ (HG.out.later HB.out)).mono ?_
  rintro e W1 ⟨tv, rfl, htv, hB1⟩
  have hk := htv.ks
  rw [aw_toks] at hk
  obtain ⟨va, vc, rfl, -, -, -⟩ := id hk
  obtain ⟨g, o, rfl, -, -, -, -, -⟩ := hk.cells (by decide)
  have HK := Lib.hid hk
  have k3 := (hB1.block _ (lt_of_block K3.out)).trans K3.out
  have K3' := Lib.hid k3
  have HB1 := Lib.hid (Below.then HB.out hB1)
  clear htv hk k3 hB1
  go_wp2_with fail
  exact aw5 w W1 b3 g o vc HG.out HB1.out K3'.out HK.out _ _ _ _ _ _ _ _ _ _ _ _ _ _ _ _ _ _ _ _ _ _ _ _ _ _ _ _ _ _ _ _ _ _ _ _ _ _ _ _ _ _ _ _ _ _ _ _ _ _ _ _ _ _ _ _ _ _ _ _ _ _ _ _ _ _ _ _ _ _ _ _ _ _ _ _ _ _ _ _ _ _ _ _ _ _ _ _ _ _ _ _ _ _ _ _ _ _ _ _ _ _ _ _ _ _ _ _ _ _ _ _ _ _ _ _ _ _ _ _ _ _ _ _ _ _ _ _ _ _ _ _ _ _ _ _ _ _ _

set_option maxRecDepth 100000 in
set_option maxHeartbeats 4000000 in
theorem aw3 (w W : World) (hG : Glob w) (hB : Below w.heap.size w W) 
    (c0 c3 c4 c5 c6 c7 c8 c9 c10 c11 c12 c13 c14 c15 c16 c17 c18 c19 c20 c21 c22 c23 c24 c25 c26 c27 c28 c29 c30 c31 c32 c33 c34 c35 c36 c37 c38 c39 c40 c41 c42 c43 c44 c45 c46 c47 c48 c49 c50 c51 c52 c53 c54 c55 c56 c57 c58 c59 c60 c61 c62 c63 c64 c65 c66 c67 c68 c69 c70 c71 c72 c73 c74 c75 c76 c77 c78 c79 c80 c81 c82 c83 c84 c85 c86 c87 c88 c89 c90 c91 c92 c93 c94 c95 c96 c97 c98 c99 c100 c101 c102 c103 c104 c105 c106 c107 c108 c109 c110 c111 c112 c113 c114 c115 c116 c117 c118 c119 c120 c121 c122 c123 c124 c125 c126 c127 c128 c129 c130 c131 c132 c133 c134 c135 c136 c137 c138 c139 c140 c141 c142 : Value) :
    Code.wp Tryd.prog (secs 3 awBody) (bodyPost Tryd.prog Tryd.f8 (TruePost w)) ⟨#[c0, .string ⟨#[97, 32, 43, 98]⟩, .string ⟨#[97]⟩, c3, c4, c5, c6, c7, c8, c9, c10, c11, c12, c13, c14, c15, c16, c17, c18, c19, c20, c21, c22, c23, c24, c25, c26, c27, c28, c29, c30, c31, c32, c33, c34, c35, c36, c37, c38, c39, c40, c41, c42, c43, c44, c45, c46, c47, c48, c49, c50, c51, c52, c53, c54, c55, c56, c57, c58, c59, c60, c61, c62, c63, c64, c65, c66, c67, c68, c69, c70, c71, c72, c73, c74, c75, c76, c77, c78, c79, c80, c81, c82, c83, c84, c85, c86, c87, c88, c89, c90, c91, c92, c93, c94, c95, c96, c97, c98, c99, c100, c101, c102, c103, c104, c105, c106, c107, c108, c109, c110, c111, c112, c113, c114, c115, c116, c117, c118, c119, c120, c121, c122, c123, c124, c125, c126, c127, c128, c129, c130, c131, c132, c133, c134, c135, c136, c137, c138, c139, c140, c141, c142], []⟩ W := by
  have HB := Lib.hid hB
  have HG := Lib.hid hG
  clear hB hG
  refine wp_sec 3 awBody rfl ?_
  conv => arg 2; whnf
  go_wp2_with fail
  refine (tokens_any 0 ⟨#[102, 40, 34, 120, 92, 110, 34, 44, 32, 39, 34, 39, 41]⟩ (by decide) _ (HG.out.later HB.out)).mono ?_
  rintro e W1 ⟨tv, rfl, htv, hB1⟩
  obtain ⟨va, vc, rfl, -, -, -⟩ := id htv
  have HTV := Lib.hid htv
  have HB1 := Lib.hid (Below.then HB.out hB1)
  clear htv hB1
  go_wp2_with fail
  refine (gstring_lit ⟨#[102, 40, 34, 120, 92, 110, 34, 44, 32, 39, 34, 39, 41]⟩ _ (by decide) aw_s _ _ (HG.out.later HB1.out) HTV.out).mono ?_
  rintro e W2 ⟨rfl, hB2⟩
  have HB2 := Lib.hid (Below.then HB1.out hB2)
  clear hB2
  go_wp2_with fail
  exact aw4 w _ W2.heap.size HG.out (HB2.out.alloc HB2.out.size _) (heap_alloc_new W2 _) _ _ _ _ _ _ _ _ _ _ _ _ _ _ _ _ _ _ _ _ _ _ _ _ _ _ _ _ _ _ _ _ _ _ _ _ _ _ _ _ _ _ _ _ _ _ _ _ _ _ _ _ _ _ _ _ _ _ _ _ _ _ _ _ _ _ _ _ _ _ _ _ _ _ _ _ _ _ _ _ _ _ _ _ _ _ _ _ _ _ _ _ _ _ _ _ _ _ _ _ _ _ _ _ _ _ _ _ _ _ _ _ _ _ _ _ _ _ _ _ _ _ _ _ _ _ _ _ _ _ _ _ _ _ _ _ _ _ _ _

set_option maxRecDepth 100000 in
set_option maxHeartbeats 4000000 in
theorem aw2 (w W : World) (hG : Glob w) (hB : Below w.heap.size w W) 
    (c0 c2 c3 c4 c5 c6 c7 c8 c9 c10 c11 c12 c13 c14 c15 c16 c17 c18 c19 c20 c21 c22 c23 c24 c25 c26 c27 c28 c29 c30 c31 c32 c33 c34 c35 c36 c37 c38 c39 c40 c41 c42 c43 c44 c45 c46 c47 c48 c49 c50 c51 c52 c53 c54 c55 c56 c57 c58 c59 c60 c61 c62 c63 c64 c65 c66 c67 c68 c69 c70 c71 c72 c73 c74 c75 c76 c77 c78 c79 c80 c81 c82 c83 c84 c85 c86 c87 c88 c89 c90 c91 c92 c93 c94 c95 c96 c97 c98 c99 c100 c101 c102 c103 c104 c105 c106 c107 c108 c109 c110 c111 c112 c113 c114 c115 c116 c117 c118 c119 c120 c121 c122 c123 c124 c125 c126 c127 c128 c129 c130 c131 c132 c133 c134 c135 c136 c137 c138 c139 c140 c141 c142 : Value) :
    Code.wp Tryd.prog (secs 2 awBody) (bodyPost Tryd.prog Tryd.f8 (TruePost w)) ⟨#[c0, .string ⟨#[97, 32, 43, 98]⟩, c2, c3, c4, c5, c6, c7, c8, c9, c10, c11, c12, c13, c14, c15, c16, c17, c18, c19, c20, c21, c22, c23, c24, c25, c26, c27, c28, c29, c30, c31, c32, c33, c34, c35, c36, c37, c38, c39, c40, c41, c42, c43, c44, c45, c46, c47, c48, c49, c50, c51, c52, c53, c54, c55, c56, c57, c58, c59, c60, c61, c62, c63, c64, c65, c66, c67, c68, c69, c70, c71, c72, c73, c74, c75, c76, c77, c78, c79, c80, c81, c82, c83, c84, c85, c86, c87, c88, c89, c90, c91, c92, c93, c94, c95, c96, c97, c98, c99, c100, c101, c102, c103, c104, c105, c106, c107, c108, c109, c110, c111, c112, c113, c114, c115, c116, c117, c118, c119, c120, c121, c122, c123, c124, c125, c126, c127, c128, c129, c130, c131, c132, c133, c134, c135, c136, c137, c138, c139, c140, c141, c142], []⟩ W := by
  have HB := Lib.hid hB
  have HG := Lib.hid hG
  clear hB hG
  refine wp_sec 2 awBody rfl ?_
  conv => arg 2; whnf
  go_wp2_with fail
  refine (tokens_any 0 ⟨#[32, 97]⟩ (by decide) _ (HG.out.later HB.out)).mono ?_
  rintro e W1 ⟨tv, rfl, htv, hB1⟩
  obtain ⟨va, vc, rfl, -, -, -⟩ := id htv
  have HTV := Lib.hid htv
  have HB1 := Lib.hid (Below.then HB.out hB1)
  clear htv hB1
  go_wp2_with fail
  refine (gtext_lit ⟨#[32, 97]⟩ _ (by decide) aw_t2 _ _ HTV.out).mono ?_
  rintro e W2 ⟨rfl, hB2⟩
  have HB2 := Lib.hid (Below.then HB1.out hB2)
  clear hB2
  go_wp2_with fail
  exact aw3 w _ HG.out HB2.out _ _ _ _ _ _ _ _ _ _ _ _ _ _ _ _ _ _ _ _ _ _ _ _ _ _ _ _ _ _ _ _ _ _ _ _ _ _ _ _ _ _ _ _ _ _ _ _ _ _ _ _ _ _ _ _ _ _ _ _ _ _ _ _ _ _ _ _ _ _ _ _ _ _ _ _ _ _ _ _ _ _ _ _ _ _ _ _ _ _ _ _ _ _ _ _ _ _ _ _ _ _ _ _ _ _ _ _ _ _ _ _ _ _ _ _ _ _ _ _ _ _ _ _ _ _ _ _ _ _ _ _ _ _ _ _ _ _ _ _ _

set_option maxRecDepth 100000 in
set_option maxHeartbeats 4000000 in
theorem aw1 (w W : World) (hG : Glob w) (hB : Below w.heap.size w W) 
    (c0 c1 c2 c3 c4 c5 c6 c7 c8 c9 c10 c11 c12 c13 c14 c15 c16 c17 c18 c19 c20 c21 c22 c23 c24 c25 c26 c27 c28 c29 c30 c31 c32 c33 c34 c35 c36 c37 c38 c39 c40 c41 c42 c43 c44 c45 c46 c47 c48 c49 c50 c51 c52 c53 c54 c55 c56 c57 c58 c59 c60 c61 c62 c63 c64 c65 c66 c67 c68 c69 c70 c71 c72 c73 c74 c75 c76 c77 c78 c79 c80 c81 c82 c83 c84 c85 c86 c87 c88 c89 c90 c91 c92 c93 c94 c95 c96 c97 c98 c99 c100 c101 c102 c103 c104 c105 c106 c107 c108 c109 c110 c111 c112 c113 c114 c115 c116 c117 c118 c119 c120 c121 c122 c123 c124 c125 c126 c127 c128 c129 c130 c131 c132 c133 c134 c135 c136 c137 c138 c139 c140 c141 c142 : Value) :
    Code.wp Tryd.prog (secs 1 awBody) (bodyPost Tryd.prog Tryd.f8 (TruePost w)) ⟨#[c0, c1, c2, c3, c4, c5, c6, c7, c8, c9, c10, c11, c12, c13, c14, c15, c16, c17, c18, c19, c20, c21, c22, c23, c24, c25, c26, c27, c28, c29, c30, c31, c32, c33, c34, c35, c36, c37, c38, c39, c40, c41, c42, c43, c44, c45, c46, c47, c48, c49, c50, c51, c52, c53, c54, c55, c56, c57, c58, c59, c60, c61, c62, c63, c64, c65, c66, c67, c68, c69, c70, c71, c72, c73, c74, c75, c76, c77, c78, c79, c80, c81, c82, c83, c84, c85, c86, c87, c88, c89, c90, c91, c92, c93, c94, c95, c96, c97, c98, c99, c100, c101, c102, c103, c104, c105, c106, c107, c108, c109, c110, c111, c112, c113, c114, c115, c116, c117, c118, c119, c120, c121, c122, c123, c124, c125, c126, c127, c128, c129, c130, c131, c132, c133, c134, c135, c136, c137, c138, c139, c140, c141, c142], []⟩ W := by
  have HB := Lib.hid hB
  have HG := Lib.hid hG
  clear hB hG
  refine wp_sec 1 awBody rfl ?_
  conv => arg 2; whnf
  go_wp2_with fail
  refine (tokens_any 0 ⟨#[97, 32, 32, 43, 98]⟩ (by decide) _ (HG.out.later HB.out)).mono ?_
  rintro e W1 ⟨tv, rfl, htv, hB1⟩
  obtain ⟨va, vc, rfl, -, -, -⟩ := id htv
  have HTV := Lib.hid htv
  have HB1 := Lib.hid (Below.then HB.out hB1)
  clear htv hB1
  go_wp2_with fail
  refine (gtext_lit ⟨#[97, 32, 32, 43, 98]⟩ _ (by decide) aw_t1 _ _ HTV.out).mono ?_
  rintro e W2 ⟨rfl, hB2⟩
  have HB2 := Lib.hid (Below.then HB1.out hB2)
  clear hB2
  go_wp2_with fail
  exact aw2 w _ HG.out HB2.out _ _ _ _ _ _ _ _ _ _ _ _ _ _ _ _ _ _ _ _ _ _ _ _ _ _ _ _ _ _ _ _ _ _ _ _ _ _ _ _ _ _ _ _ _ _ _ _ _ _ _ _ _ _ _ _ _ _ _ _ _ _ _ _ _ _ _ _ _ _ _ _ _ _ _ _ _ _ _ _ _ _ _ _ _ _ _ _ _ _ _ _ _ _ _ _ _ _ _ _ _ _ _ _ _ _ _ _ _ _ _ _ _ _ _ _ _ _ _ _ _ _ _ _ _ _ _ _ _ _ _ _ _ _ _ _ _ _ _ _ _ _

set_option maxRecDepth 100000 in
set_option maxHeartbeats 4000000 in
theorem awake_any (w : World) (hG : Glob w) : Calls Tryd.prog 8 #[] w (TruePost w) := by
  go_enter Tryd.func8, Tryd.ntmps8
  show Code.wp Tryd.prog (secs 0 awBody) _ _ _
  refine wp_sec 0 awBody rfl ?_
  conv => arg 2; whnf
  go_wp2_with fail
  exact aw1 w w hG (Below.refl _ w) _ _ _ _ _ _ _ _ _ _ _ _ _ _ _ _ _ _ _ _ _ _ _ _ _ _ _ _ _ _ _ _ _ _ _ _ _ _ _ _ _ _ _ _ _ _ _ _ _ _ _ _ _ _ _ _ _ _ _ _ _ _ _ _ _ _ _ _ _ _ _ _ _ _ _ _ _ _ _ _ _ _ _ _ _ _ _ _ _ _ _ _ _ _ _ _ _ _ _ _ _ _ _ _ _ _ _ _ _ _ _ _ _ _ _ _ _ _ _ _ _ _ _ _ _ _ _ _ _ _ _ _ _ _ _ _ _ _ _ _ _ _ _
end Go.Proofs.YtlkcmegjbdibcaaDoor
