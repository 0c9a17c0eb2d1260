/- What is proved: a name that stands for tokens without names gives these (the law ExpandPlain): all the tokens, a region that draws its order. (and what stands with it) -/
import Derived.Test.YtlepnafgcmeimaaGreatDoorGs
import Derived.Deep.RegionLaw

/- What is proved: a name that stands for tokens without names gives these (the law ExpandPlain): all the tokens, a region that draws its order. -/
namespace Go.Proofs.YtlepnafgcmeimaaGreatDoor
open Go.RowKit Go.Shelf
open Mx (M HH)

set_option maxRecDepth 100000 in
theorem step_append_ks {w : World} {ops : Array Oper} {o : Oper} {a : Act} {K0 : Act → World → Prop} {Q : Exit → Act → World → Prop} {E : Prop} (hgd : o.guard = none) (s x : Operand)
    (ho : o.op = .call { callee := .builtin .append, args := #[s, x], argTypes := #[27, 27] }) (base : Nat) (v : Value) (n : Nat) (l : List K) (hs : a.eval s = v) (hown : w.ownsRow base 30 6 v n (ksCells l))
    (u : Value) (l2 : List K) (hx : a.eval x = u) (hu : Ks w u l2) (hn : n + l2.length ≤ 1000000) (hbase : base ≤ w.heap.size)
    (h : ∀ v' w', w'.ownsRow base 30 6 v' (n + l2.length) (ksCells (l ++ l2)) → w.grownBy w' v.ownBlock → K0 (a.put o.dst v') w') :
    if Region.wanted o (yielded ops a.tmps) = true then Oper.wp Tryz.prog o a w K0 Q else E := by
  obtain ⟨i0, hi, hz0, hz1, hz2⟩ := info_parts infoTok
  obtain ⟨ad, c, rfl, h1, h2, h3⟩ := id hu
  rcases Nat.eq_zero_or_pos l2.length with h0 | hpos
  · obtain rfl : l2 = [] := List.length_eq_zero_iff.1 h0
    have hw : Region.wanted o (yielded ops a.tmps) = true := by simp [Region.wanted, hgd]
    rw [if_pos hw]
    have hrun := run_append_empty (P := Tryz.prog) (w := w) base 27 o.type 30 i0 6 Tryz.underlying27 hi v n (ksCells l) hown ad c
    unfold Oper.wp
    simp [execOp, ho, resolve, invoke, builtin, hs, hx, hrun, Result.andThen]
    exact h v w (by rw [List.append_nil]; exact hown) ⟨rfl, rfl, rfl, Nat.le_refl _, fun _ _ _ => rfl⟩
  · obtain ⟨g, o', rfl, c0⟩ := h3 0 _ (List.getElem?_eq_getElem hpos)
    refine step_append_lies w hgd s x 27 ho base 30 i0 _ 6 56 Tryz.underlying27 hi hz0 hz1 hz2 rfl (by decide) v n (ksCells l) hs hown ⟨g, o', none⟩ l2.length c (ksCells l2) hx (ksCells_length l2) ?_ (ksCells_one l2) hpos (by unfold maxLen; omega) (by omega) hbase w.heap.size rfl ?_
    · exact ks_news hu
    · intro g2 cap w' hr hg _ _
      rw [← ksCells_append] at hr
      exact h _ _ hr hg

set_option maxRecDepth 100000 in
set_option maxHeartbeats 8000000 in
theorem plain_mid8 (w W X : World) (mg mo mc na nb : Nat) (ad bd' : Option Addr) (ac bc : Nat) (m : M) (A B : List K) (xv : Value) (c0 c1 c2 c3 c4 c5 c6 c9 c12 c14 c15 c16 c17 c18 c19 c20 c21 c22 c23 c24 c25 c26 c27 c28 c29 c30 c31 c32 c33 c34 c35 c36 c37 c38 c39 c40 c41 c42 c43 c44 c45 c46 c47 c48 c49 c50 c51 c52 c53 c54 c55 c56 c57 c58 c59 c60 c61 c62 c63 c64 c65 c66 c67 c68 c69 c70 c71 c72 c73 c74 c75 c76 c77 c78 c79 c80 c81 c82 c83 c84 c85 c86 c87 c88 c89 c90 c91 c92 c93 c94 c95 c96 c97 c98 c99 c100 c101 c102 c103 c104 c105 c106 c107 c108 c109 c110 c111 c112 c113 c114 c115 c116 c117 c118 c119 c120 c121 c122 c123 c124 c125 c126 c127 c128 c129 c130 c131 c132 c133 c134 c135 c136 c137 c138 c139 c140 c141 c142 c143 c144 c145 c146 c147 c148 c149 c150 c151 c152 c153 c154 c155 c156 c157 c158 c159 c160 c161 c162 c163 c164 c165 c166 c167 c168 c169 c170 c171 c172 c173 c174 c175 c176 c177 c178 c179 c180 c181 c182 c183 c184 c185 c186 c187 c188 c189 : Value)
    (hM : MsV W (.slice (some ⟨mg, mo, none⟩) 1 mc) [m]) (hBq : Ks W (.slice bd' nb bc) B) (ena : na = A.length) (enb : nb = B.length) (la : na ≤ 200) (lb : nb ≤ 200)
    (sa : ∀ t ∈ A, t.text.size ≤ 200) (sb : ∀ t ∈ B, t.text.size ≤ 200) (sm : Ep.MSmall m) (sn : m.name.size ≤ 1000000) (fn : m.fn = false) (bk : ∀ t ∈ m.body, t.kind ≠ 1 ∧ t.text ≠ HH) (hG : Glob w) (hw : Below w.heap.size w W)
    (hrow : X.ownsRow W.heap.size 30 6 xv (na + 1) (ksCells (A ++ [⟨1, m.name, 0, 0, 0, true⟩]))) (hX : Below W.heap.size W X) :
    Code.wp Tryz.prog (secs 8 plBody8) (bodyPost Tryz.prog Tryz.f4 (TruePost w)) ⟨#[c0, c1, c2, c3, c4, c5, c6, .bool true, .slice (some ⟨mg, mo, none⟩) 1 mc, c9, .slice ad na ac, .slice bd' nb bc, c12, xv, c14, c15, c16, c17, c18, c19, c20, c21, c22, c23, c24, c25, c26, c27, c28, c29, c30, c31, c32, c33, c34, c35, c36, c37, c38, c39, c40, c41, c42, c43, c44, c45, c46, c47, c48, c49, c50, c51, c52, c53, c54, c55, c56, c57, c58, c59, c60, c61, c62, c63, c64, c65, c66, c67, c68, c69, c70, c71, c72, c73, c74, c75, c76, c77, c78, c79, c80, c81, c82, c83, c84, c85, c86, c87, c88, c89, c90, c91, c92, c93, c94, c95, c96, c97, c98, c99, c100, c101, c102, c103, c104, c105, c106, c107, c108, c109, c110, c111, c112, c113, c114, c115, c116, c117, c118, c119, c120, c121, c122, c123, c124, c125, c126, c127, c128, c129, c130, c131, c132, c133, c134, c135, c136, c137, c138, c139, c140, c141, c142, c143, c144, c145, c146, c147, c148, c149, c150, c151, c152, c153, c154, c155, c156, c157, c158, c159, c160, c161, c162, c163, c164, c165, c166, c167, c168, c169, c170, c171, c172, c173, c174, c175, c176, c177, c178, c179, c180, c181, c182, c183, c184, c185, c186, c187, c188, c189], []⟩ X := by
  obtain ⟨N, hN⟩ : ∃ N, N = na + 1 + nb := ⟨_, rfl⟩
  have hb := hBq.below hX
  have HM := Lib.hid hM
  have HB := Lib.hid hb
  have HX := Lib.hid hX
  have HNA := Lib.hid ena
  have HNB := Lib.hid enb
  clear hM hBq hb hX ena enb
  refine wp_sec 8 plBody8 rfl ?_
  conv => arg 2; whnf
  go_wp2_with (at_builtin; refine wpList_append_ks rfl _ _ rfl W.heap.size xv (na + 1) _ rfl hrow (.slice bd' nb bc) B rfl HB.out (by rw [← HNB.out]; omega) HX.out.size ?_; intro x6 w6 hr6 hg6)
  have hB6 := HX.out.grown hg6 HX.out.size (fun k e => (hrow.lt k e).1)
  have hr : w6.ownsRow W.heap.size 30 6 x6 N (ksCells (A ++ ⟨1, m.name, 0, 0, 0, true⟩ :: B)) := by
    have := hr6
    simp only [List.append_assoc, List.singleton_append, ← HNB.out] at this
    rw [hN]
    exact this
  have hlen : (A ++ (⟨1, m.name, 0, 0, 0, true⟩ : K) :: B).length = N := by rw [List.length_append, List.length_cons, ← HNA.out, ← HNB.out, hN]; omega
  obtain ⟨aa, ca, rfl⟩ : ∃ aa ca, x6 = .slice aa N ca := by
    rcases hr.2 with ⟨_, h0⟩ | ⟨g, cap, cur, h', _⟩
    · omega
    · exact ⟨_, cap, h'⟩
  have hks : Ks w6 (.slice aa N ca) (A ++ ⟨1, m.name, 0, 0, 0, true⟩ :: B) := Ks.of_row (by rw [hlen]; exact hr)
  have hS : PlS w6 mg mo mc na nb ad bd' ac bc (.slice aa N ca) m A B ⟨1, m.name, 0, 0, 0, true⟩ := ⟨HM.out.below hB6, hks, rfl, HNA.out, HNB.out, la, lb, sa, sb, sm, sn, fn, bk⟩
  have HS := Lib.hid hS
  have HB6 := Lib.hid (Below.then hw hB6)
  clear hr6 hg6 hB6 hr hks hS hrow hlen
  refine wp_sec 9 plBody8 rfl ?_
  conv => arg 2; whnf
  go_wp2_with fail
  exact plain_loop10 w w6 mg mo mc na nb ad bd' ac bc m A B _ aa N ca _ _ _ _ _ _ _ _ _ _ _ _ _ _ _ _ _ _ _ _ _ _ _ _ _ _ _ _ _ _ _ _ _ _ _ _ _ _ _ _ _ _ _ _ _ _ _ _ _ _ _ _ _ _ _ _ _ _ _ _ _ _ _ _ _ _ _ _ _ _ _ _ _ _ _ _ _ _ _ _ _ _ _ _ _ _ _ _ _ _ _ _ _ _ _ _ _ _ _ _ _ _ _ _ _ _ _ _ _ _ _ _ _ _ _ _ _ _ _ _ _ _ _ _ _ _ _ _ _ _ _ _ _ _ _ _ _ _ _ _ _ _ _ _ _ _ _ _ _ _ _ _ _ _ _ _ _ _ _ _ _ _ _ _ _ _ _ _ _ _ _ _ _ _ _ _ _ _ _ _ _ _ _ _ HS.out hN hG HB6.out

set_option maxRecDepth 100000 in
set_option maxHeartbeats 8000000 in
theorem plain_mid7 (w W : World) (mg mo mc na nb : Nat) (ad bd' : Option Addr) (ac bc : Nat) (m : M) (A B : List K) (c0 c1 c2 c3 c4 c5 c6 c9 c12 c13 c14 c15 c16 c17 c18 c19 c20 c21 c22 c23 c24 c25 c26 c27 c28 c29 c30 c31 c32 c33 c34 c35 c36 c37 c38 c39 c40 c41 c42 c43 c44 c45 c46 c47 c48 c49 c50 c51 c52 c53 c54 c55 c56 c57 c58 c59 c60 c61 c62 c63 c64 c65 c66 c67 c68 c69 c70 c71 c72 c73 c74 c75 c76 c77 c78 c79 c80 c81 c82 c83 c84 c85 c86 c87 c88 c89 c90 c91 c92 c93 c94 c95 c96 c97 c98 c99 c100 c101 c102 c103 c104 c105 c106 c107 c108 c109 c110 c111 c112 c113 c114 c115 c116 c117 c118 c119 c120 c121 c122 c123 c124 c125 c126 c127 c128 c129 c130 c131 c132 c133 c134 c135 c136 c137 c138 c139 c140 c141 c142 c143 c144 c145 c146 c147 c148 c149 c150 c151 c152 c153 c154 c155 c156 c157 c158 c159 c160 c161 c162 c163 c164 c165 c166 c167 c168 c169 c170 c171 c172 c173 c174 c175 c176 c177 c178 c179 c180 c181 c182 c183 c184 c185 c186 c187 c188 c189 : Value)
    (hM : MsV W (.slice (some ⟨mg, mo, none⟩) 1 mc) [m]) (hA : Ks W (.slice ad na ac) A) (hBq : Ks W (.slice bd' nb bc) B) (ena : na = A.length) (enb : nb = B.length) (la : na ≤ 200) (lb : nb ≤ 200)
    (sa : ∀ t ∈ A, t.text.size ≤ 200) (sb : ∀ t ∈ B, t.text.size ≤ 200) (sm : Ep.MSmall m) (sn : m.name.size ≤ 1000000) (fn : m.fn = false) (bk : ∀ t ∈ m.body, t.kind ≠ 1 ∧ t.text ≠ HH) (hG : Glob w) (hw : Below w.heap.size w W) :
    Code.wp Tryz.prog (secs 7 plBody8) (bodyPost Tryz.prog Tryz.f4 (TruePost w)) ⟨#[c0, c1, c2, c3, c4, c5, c6, .bool true, .slice (some ⟨mg, mo, none⟩) 1 mc, c9, .slice ad na ac, .slice bd' nb bc, c12, c13, c14, c15, c16, c17, c18, c19, c20, c21, c22, c23, c24, c25, c26, c27, c28, c29, c30, c31, c32, c33, c34, c35, c36, c37, c38, c39, c40, c41, c42, c43, c44, c45, c46, c47, c48, c49, c50, c51, c52, c53, c54, c55, c56, c57, c58, c59, c60, c61, c62, c63, c64, c65, c66, c67, c68, c69, c70, c71, c72, c73, c74, c75, c76, c77, c78, c79, c80, c81, c82, c83, c84, c85, c86, c87, c88, c89, c90, c91, c92, c93, c94, c95, c96, c97, c98, c99, c100, c101, c102, c103, c104, c105, c106, c107, c108, c109, c110, c111, c112, c113, c114, c115, c116, c117, c118, c119, c120, c121, c122, c123, c124, c125, c126, c127, c128, c129, c130, c131, c132, c133, c134, c135, c136, c137, c138, c139, c140, c141, c142, c143, c144, c145, c146, c147, c148, c149, c150, c151, c152, c153, c154, c155, c156, c157, c158, c159, c160, c161, c162, c163, c164, c165, c166, c167, c168, c169, c170, c171, c172, c173, c174, c175, c176, c177, c178, c179, c180, c181, c182, c183, c184, c185, c186, c187, c188, c189], []⟩ W := by
  obtain ⟨ad1, cap1, e, -, -, h3⟩ := id hM
  obtain ⟨g, o, e2, pv, bv, c0, -⟩ := h3 0 m rfl
  injection e with e3 e4 e5
  rw [← e3] at e2
  injection e2 with e2
  injection e2 with e6 e7
  subst e6 e7
  simp only [Nat.zero_mul, Nat.add_zero] at c0
  have hB1 : Below W.heap.size W ((W.alloc (.cells #[] 30)).drew) := ((Below.refl _ W).alloc (Nat.le_refl _) _).drew
  have hB2 : Below W.heap.size W (((W.alloc (.cells #[] 30)).alloc (.cells #[.int .i64 1, .string m.name, .int .i64 0, .int .i64 0, .int .i64 0, .bool true] 30)).drew) := (((Below.refl _ W).alloc (Nat.le_refl _) _).alloc (by simp) _).drew
  have hB3 : Below W.heap.size W (((W.alloc (.cells #[.int .i64 1, .string m.name, .int .i64 0, .int .i64 0, .int .i64 0, .bool true] 30)).alloc (.cells #[] 30)).drew) := (((Below.refl _ W).alloc (Nat.le_refl _) _).alloc (by simp) _).drew
  have HM := Lib.hid hM
  have HA := Lib.hid hA
  have HBQ := Lib.hid hBq
  have HNA := Lib.hid ena
  have HNB := Lib.hid enb
  clear e3 e4 e5 h3 hM hA hBq ena enb
  refine wp_sec 7 plBody8 rfl ?_
  conv => arg 2; whnf
  go_wp2_with fail
  have hmg := lt_of_cell c0
  have hk2 : (((W.alloc (.cells #[] 30)).alloc (.cells #[.int .i64 1, .string m.name, .int .i64 0, .int .i64 0, .int .i64 0, .bool true] 30)).drew).heap[W.heap.size + 1]? = some (.cells #[.int .i64 1, .string m.name, .int .i64 0, .int .i64 0, .int .i64 0, .bool true] 30 (0, 0)) := heap_alloc2_new W _ _
  have hk3 : (((W.alloc (.cells #[.int .i64 1, .string m.name, .int .i64 0, .int .i64 0, .int .i64 0, .bool true] 30)).alloc (.cells #[] 30)).drew).heap[W.heap.size]? = some (.cells #[.int .i64 1, .string m.name, .int .i64 0, .int .i64 0, .int .i64 0, .bool true] 30 (0, 0)) := heap_alloc2_old W _ _
  have hre3 : (((W.alloc (.cells #[.int .i64 1, .string m.name, .int .i64 0, .int .i64 0, .int .i64 0, .bool true] 30)).alloc (.cells #[] 30)).drew).ownsRow W.heap.size 30 6 (.slice (some ⟨W.heap.size + 1, 0, none⟩) 0 0) 0 (ksCells []) := by
    have h := row_emptyK (W.alloc (.cells #[.int .i64 1, .string m.name, .int .i64 0, .int .i64 0, .int .i64 0, .bool true] 30))
    rw [World.size_alloc] at h
    exact (h.mono (Nat.le_succ _)).drew
  go_region_law ((first
    | (refine step_append_ks rfl (.tmp 80) (.tmp 81) rfl W.heap.size (.slice (some ⟨W.heap.size, 0, none⟩) 0 0) 0 [] rfl ((row_emptyK W).drew) (.slice ad na ac) A rfl (HA.out.below hB1) (by rw [← HNA.out]; omega) hB1.size ?_; intro x4 w4 hr4 hg4; have hB4 := hB1.grown hg4 hB1.size (by intro k e; simp [Value.ownBlock] at e; omega); have hcN := (hB4.cell (p := ⟨mg, mo, none⟩) hmg).trans c0)
    | (refine step_append_ks rfl (.tmp 80) (.tmp 81) rfl W.heap.size (.slice (some ⟨W.heap.size, 0, none⟩) 0 0) 0 [] rfl (((row_emptyK W).alloc _).drew) (.slice ad na ac) A rfl (HA.out.below hB2) (by rw [← HNA.out]; omega) hB2.size ?_; intro x4 w4 hr4 hg4; have hB4 := hB2.grown hg4 hB2.size (by intro k e; simp [Value.ownBlock] at e; omega); have hcN := (hB4.cell (p := ⟨mg, mo, none⟩) hmg).trans c0; have hnm := (hg4.block (W.heap.size + 1) (by simp) (by simp [Value.ownBlock])).trans hk2)
    | (refine step_append_ks rfl (.tmp 80) (.tmp 81) rfl W.heap.size (.slice (some ⟨W.heap.size + 1, 0, none⟩) 0 0) 0 [] rfl hre3 (.slice ad na ac) A rfl (HA.out.below hB3) (by rw [← HNA.out]; omega) hB3.size ?_; intro x4 w4 hr4 hg4; have hB4 := hB3.grown hg4 hB3.size (by intro k e; simp [Value.ownBlock] at e; omega); have hcN := (hB4.cell (p := ⟨mg, mo, none⟩) hmg).trans c0; have hnm := (hg4.block W.heap.size (by simp; omega) (by simp [Value.ownBlock])).trans hk3)
    | (refine step_append_ks rfl (.tmp 82) (.tmp 88) rfl W.heap.size x4 _ _ rfl (hr4.alloc _) (.slice (some ⟨w4.heap.size, 0, none⟩) 1 1) [⟨1, m.name, 0, 0, 0, true⟩] rfl (ks_one (heap_alloc_new w4 (.cells #[.int .i64 1, .string m.name, .int .i64 0, .int .i64 0, .int .i64 0, .bool true] 30))) (by rw [← HNA.out]; simp; omega) (by have := hB4.size; simp; omega) ?_; intro x5 w5 hr5 hg5; have hB5 := (hB4.alloc hB4.size (.cells #[.int .i64 1, .string m.name, .int .i64 0, .int .i64 0, .int .i64 0, .bool true] 30)).grown hg5 (by have := hB4.size; simp; omega) (fun k e => (hr4.lt k e).1))
    | (refine step_append_ks rfl (.tmp 82) (.tmp 88) rfl W.heap.size x4 _ _ rfl hr4 (.slice (some ⟨W.heap.size + 1, 0, none⟩) 1 1) [⟨1, m.name, 0, 0, 0, true⟩] rfl (ks_one hnm) (by rw [← HNA.out]; simp; omega) hB4.size ?_; intro x5 w5 hr5 hg5; have hB5 := hB4.grown hg5 hB4.size (fun k e => (hr4.lt k e).1))
    | (refine step_append_ks rfl (.tmp 82) (.tmp 88) rfl W.heap.size x4 _ _ rfl hr4 (.slice (some ⟨W.heap.size, 0, none⟩) 1 1) [⟨1, m.name, 0, 0, 0, true⟩] rfl (ks_one hnm) (by rw [← HNA.out]; simp; omega) hB4.size ?_; intro x5 w5 hr5 hg5; have hB5 := hB4.grown hg5 hB4.size (fun k e => (hr4.lt k e).1))))
  all_goals
    have hrow : w5.ownsRow W.heap.size 30 6 x5 (na + 1) (ksCells (A ++ [⟨1, m.name, 0, 0, 0, true⟩])) := by
      have := hr5
      simp only [List.nil_append, List.length_singleton, Nat.zero_add, ← HNA.out] at this
      exact this
    have HROW := Lib.hid hrow
    have HB5 := Lib.hid hB5
    have HC := Lib.hid c0
    clear hr4 hg4 hB4 hcN hr5 hg5 hrow hB5 hre3 hk2 hk3 hB1 hB2 hB3 c0
    try clear hnm
    go_wp2_with fail
    exact plain_mid8 w W _ mg mo mc na nb ad bd' ac bc m A B _ _ _ _ _ _ _ _ _ _ _ _ _ _ _ _ _ _ _ _ _ _ _ _ _ _ _ _ _ _ _ _ _ _ _ _ _ _ _ _ _ _ _ _ _ _ _ _ _ _ _ _ _ _ _ _ _ _ _ _ _ _ _ _ _ _ _ _ _ _ _ _ _ _ _ _ _ _ _ _ _ _ _ _ _ _ _ _ _ _ _ _ _ _ _ _ _ _ _ _ _ _ _ _ _ _ _ _ _ _ _ _ _ _ _ _ _ _ _ _ _ _ _ _ _ _ _ _ _ _ _ _ _ _ _ _ _ _ _ _ _ _ _ _ _ _ _ _ _ _ _ _ _ _ _ _ _ _ _ _ _ _ _ _ _ _ _ _ _ _ _ _ _ _ _ _ _ _ _ _ _ _ _ _ _ _ HM.out HBQ.out HNA.out HNB.out la lb sa sb sm sn fn bk hG hw HROW.out HB5.out
end Go.Proofs.YtlepnafgcmeimaaGreatDoor

/- What is proved: a name that stands for tokens without names gives these (the law ExpandPlain), in whatever memory. -/
namespace Go.Proofs.YtlepnafgcmeimaaGreatDoor
open Go.RowKit Go.Shelf
open Mx (M HH)

theorem msv_body {W : World} {mg mo mc : Nat} {m : M} (h : MsV W (.slice (some ⟨mg, mo, none⟩) 1 mc) [m]) :
    ∃ ba bcap, W.cell? ⟨mg, mo + 1, none⟩ = some (.bool m.fn) ∧ W.cell? ⟨mg, mo + 4, none⟩ = some (.slice ba m.body.length bcap) ∧ Ks W (.slice ba m.body.length bcap) m.body := by
  obtain ⟨ad1, cap1, e, -, -, h3⟩ := h
  obtain ⟨g, o, e2, pv, bv, c0, c1, c2, c3, c4, hm⟩ := h3 0 m rfl
  injection e with e3 e4 e5
  rw [← e3] at e2
  injection e2 with e2
  injection e2 with e6 e7
  subst e6 e7
  simp only [Nat.zero_mul, Nat.add_zero] at c0 c1 c4
  obtain ⟨pv', bv', epb, -, hk⟩ := hm
  simp only [Value.agg.injEq] at epb
  simp at epb
  obtain ⟨-, rfl⟩ := epb
  obtain ⟨ba, bcap, rfl, -⟩ := id hk
  exact ⟨ba, bcap, c1, c4, hk⟩
def BdOk (l : List K) (k : Nat) : Prop := ∀ i t, i < k → l[i]? = some t → t.kind ≠ 1 ∧ t.text ≠ HH
theorem BdOk.snoc {k : Nat} {l : List K} {t : K} (h : BdOk l k) (ht : l[k]? = some t) (h1 : t.kind ≠ 1) (hh : t.text ≠ HH) : BdOk l (k + 1) := fun i u hi hu => by
  rcases Nat.lt_or_ge i k with h' | h'
  · exact h i u h' hu
  · obtain rfl : i = k := by omega
    rw [ht] at hu
    injection hu with hu
    subst hu
    exact ⟨h1, hh⟩
theorem BdOk.all {l : List K} (h : BdOk l l.length) : ∀ t ∈ l, t.kind ≠ 1 ∧ t.text ≠ HH := fun t ht => by
  obtain ⟨i, hi⟩ := List.mem_iff_getElem?.1 ht
  exact h i t (List.getElem?_eq_some_iff.1 hi).1 hi

set_option maxRecDepth 100000 in
set_option maxHeartbeats 8000000 in
theorem plain_loop6 (w W : World) (mg mo mc na nb : Nat) (ad bd' : Option Addr) (ac bc : Nat) (m : M) (A B : List K) (c0 c1 c2 c3 c4 c5 c6 c9 c12 c13 c14 c15 c16 c17 c18 c19 c20 c21 c22 c23 c24 c25 c26 c27 c28 c29 c30 c31 c32 c33 c34 c35 c36 c37 c38 c39 c40 c41 c42 c43 c44 c45 c46 c47 c48 c49 c50 c51 c52 c53 c54 c55 c56 c57 c58 c59 c60 c61 c62 c63 c64 c65 c66 c67 c68 c69 c70 c71 c72 c73 c74 c75 c76 c77 c78 c79 c80 c81 c82 c83 c84 c85 c86 c87 c88 c89 c90 c91 c92 c93 c94 c95 c96 c97 c98 c99 c100 c101 c102 c103 c104 c105 c106 c107 c108 c109 c110 c111 c112 c113 c114 c115 c116 c117 c118 c119 c120 c121 c122 c123 c124 c125 c126 c127 c128 c129 c130 c131 c132 c133 c134 c135 c136 c137 c138 c139 c140 c141 c142 c143 c144 c145 c146 c147 c148 c149 c150 c151 c152 c153 c154 c155 c156 c157 c158 c159 c160 c161 c162 c163 c164 c165 c166 c167 c168 c169 c170 c171 c172 c173 c174 c175 c176 c177 c178 c179 c180 c181 c182 c183 c184 c185 c186 c187 c188 c189 : Value)
    (hM : MsV W (.slice (some ⟨mg, mo, none⟩) 1 mc) [m]) (hA : Ks W (.slice ad na ac) A) (hBq : Ks W (.slice bd' nb bc) B) (ena : na = A.length) (enb : nb = B.length) (la : na ≤ 200) (lb : nb ≤ 200)
    (sa : ∀ t ∈ A, t.text.size ≤ 200) (sb : ∀ t ∈ B, t.text.size ≤ 200) (sm : Ep.MSmall m) (sn : m.name.size ≤ 1000000) (fn : m.fn = false) (hG : Glob w) (hw : Below w.heap.size w W) :
    Code.wp Tryz.prog (secs 6 plBody8) (bodyPost Tryz.prog Tryz.f4 (TruePost w)) ⟨#[c0, c1, c2, c3, c4, c5, c6, .bool true, .slice (some ⟨mg, mo, none⟩) 1 mc, c9, .slice ad na ac, .slice bd' nb bc, c12, c13, c14, c15, c16, c17, c18, c19, c20, c21, c22, c23, c24, c25, c26, c27, c28, c29, c30, c31, c32, c33, c34, c35, c36, c37, c38, c39, c40, c41, c42, c43, c44, c45, c46, c47, c48, c49, c50, c51, c52, c53, c54, c55, c56, c57, c58, c59, c60, c61, c62, c63, c64, c65, c66, c67, c68, c69, c70, c71, c72, c73, c74, c75, c76, c77, c78, c79, c80, c81, c82, c83, c84, c85, c86, c87, c88, c89, c90, c91, c92, c93, c94, c95, c96, c97, c98, c99, c100, c101, c102, c103, c104, c105, c106, c107, c108, c109, c110, c111, c112, c113, c114, c115, c116, c117, c118, c119, c120, c121, c122, c123, c124, c125, c126, c127, c128, c129, c130, c131, c132, c133, c134, c135, c136, c137, c138, c139, c140, c141, c142, c143, c144, c145, c146, c147, c148, c149, c150, c151, c152, c153, c154, c155, c156, c157, c158, c159, c160, c161, c162, c163, c164, c165, c166, c167, c168, c169, c170, c171, c172, c173, c174, c175, c176, c177, c178, c179, c180, c181, c182, c183, c184, c185, c186, c187, c188, c189], []⟩ W := by
  obtain ⟨ba, bcap, -, b4, hkb⟩ := msv_body hM
  obtain ⟨nB, hnB⟩ : ∃ n, n = m.body.length := ⟨_, rfl⟩
  rw [← hnB] at b4 hkb
  have hmg := lt_of_cell b4
  have HB4 : Hid (∀ X, Below W.heap.size W X → X.cell? ⟨mg, mo + 4, none⟩ = some (.slice ba nB bcap)) := Lib.hid (fun X hX => (hX.cell (p := ⟨mg, mo + 4, none⟩) hmg).trans b4)
  have HKB := Lib.hid hkb
  have HNB := Lib.hid hnB
  have HM := Lib.hid hM
  have HA := Lib.hid hA
  have HBQ := Lib.hid hBq
  have HNA := Lib.hid ena
  have HNB2 := Lib.hid enb
  have h5 : nB ≤ 200 := by rw [hnB]; exact sm.bl
  have HW := Lib.hid hw
  clear hnB hkb b4 hM hA hBq ena enb hw
  refine wp_sec 6 plBody8 rfl ?_
  conv => arg 2; whnf
  go_wp2_with fail
  go_loopw [12] (fun i wr => ∃ (k : Nat), i = .int .i64 k ∧ k ≤ nB ∧ BdOk m.body k ∧ Below W.heap.size W wr) (fun i _ => nB - (intOf i).toNat)
  case atStart => exact ⟨0, rfl, Nat.zero_le _, fun i t hi => by omega, Below.refl _ _⟩
  case round =>
    obtain ⟨k, rfl, hk, hok, hB⟩ := hrel
    have HOK := Lib.hid hok
    have HB := Lib.hid hB
    have hc4 := HB4.out wr hB
    have hmgl := lt_of_cell hc4
    by_cases hlt : k < nB
    · obtain ⟨t, ht⟩ : ∃ t, m.body[k]? = some t := ⟨_, List.getElem?_eq_getElem (by rw [← HNB.out]; exact hlt)⟩
      have HT := Lib.hid ht
      obtain ⟨g, o, rfl, hat⟩ := ks_some (HKB.out.below hB) ht
      obtain ⟨d0, d1, d2, d3, d4, d5⟩ := hat
      have hgl := lt_of_cell d0
      obtain ⟨kd, tx, f, fr, en, bl⟩ := t
      dsimp only at d0 d1 d2 d3 d4 d5
      have z5 : (0 : Int) ≤ k := by omega
      have z6 : (k : Int) < nB := by omega
      clear hB hok ht
      by_cases h1 : kd = 1
      · have q1 : (kd == 1) = true := by simpa using h1
        clear h1
        go_wp2_with fail
        go_ret
        exact ⟨rfl, Below.then HW.out HB.out⟩
      · have q1 : (kd == 1) = false := by simpa using h1
        by_cases hh : tx = HH
        · have t3 : (tx.toList == [35, 35]) = true := lit_yes hh
          clear hh h1
          go_wp2_with fail
          go_ret
          exact ⟨rfl, Below.then HW.out HB.out⟩
        · have t3 : (tx.toList == [35, 35]) = false := lit_no hh
          have hok2 := HOK.out.snoc HT.out h1 hh
          have HOK2 := Lib.hid hok2
          clear hh h1 hok2
          go_wp2_with fail
          go_roundw
          case rel => exact ⟨k + 1, by go_num, by omega, HOK2.out, HB.out⟩
          case measure => simp [intOf]; omega
    · obtain rfl : k = nB := by omega
      clear hok hB
      go_wp2_with fail
      exact plain_mid7 w wr mg mo mc na nb ad bd' ac bc m A B _ _ _ _ _ _ _ _ _ _ _ _ _ _ _ _ _ _ _ _ _ _ _ _ _ _ _ _ _ _ _ _ _ _ _ _ _ _ _ _ _ _ _ _ _ _ _ _ _ _ _ _ _ _ _ _ _ _ _ _ _ _ _ _ _ _ _ _ _ _ _ _ _ _ _ _ _ _ _ _ _ _ _ _ _ _ _ _ _ _ _ _ _ _ _ _ _ _ _ _ _ _ _ _ _ _ _ _ _ _ _ _ _ _ _ _ _ _ _ _ _ _ _ _ _ _ _ _ _ _ _ _ _ _ _ _ _ _ _ _ _ _ _ _ _ _ _ _ _ _ _ _ _ _ _ _ _ _ _ _ _ _ _ _ _ _ _ _ _ _ _ _ _ _ _ _ _ _ _ _ _ _ _ _ _ _ (HM.out.below HB.out) (HA.out.below HB.out) (HBQ.out.below HB.out) HNA.out HNB2.out la lb sa sb sm sn fn (by have := HOK.out; rw [HNB.out] at this; exact this.all) hG (Below.then HW.out HB.out)

theorem readR_one {d : ByteArray} {ms : List M} (h : Ep.readR [d] = some ms) : ∃ m, ms = [m] ∧ Ep.MSmall m ∧ d.size ≤ 200 ∧ m = (Ep.defAt 0 d).1 := by
  unfold Ep.readR at h
  rw [if_neg (by simp), Ep.readM] at h
  split at h
  · rename_i hc
    rw [show Ep.readM (0 + 1) [] = some [] from rfl] at h
    simp only [Option.map_some, Option.some.injEq] at h
    exact ⟨_, h.symm, Ep.defAt_small 0 d hc.2, hc.2, rfl⟩
  · cases h
theorem defi_name (l : List K) (B : Nat) (h : ∀ t ∈ l, t.text.size ≤ B) : (Mx.defi l).1.name.size ≤ B := by
  have z : M.zero.name.size ≤ B := Nat.zero_le _
  unfold Mx.defi
  split
  · exact Nat.zero_le _
  · rename_i t r
    split
    · split
      · exact z
      · unfold Mx.bodyOf
        split
        · exact h t List.mem_cons_self
        · split
          · exact z
          · split
            · exact z
            · split
              · exact z
              · exact h t List.mem_cons_self
    · exact z

set_option maxRecDepth 100000 in
set_option maxHeartbeats 8000000 in
theorem lplain_any (d a b : ByteArray) (w : World) (hG : Glob w) (hd : d.size ≤ 2000000) (ha : a.size ≤ 2000000) (hb : b.size ≤ 2000000) :
    Calls Tryz.prog 4 #[.string d, .string a, .string b] w (TruePost w) := by
  have HG := Lib.hid hG
  clear hG
  go_enter Tryz.func4, Tryz.ntmps4
  show Code.wp Tryz.prog (secs 0 plBody8) _ _ _
  refine wp_sec 0 plBody8 rfl ?_
  conv => arg 2; whnf
  go_wp2_with fail
  refine wp_sec 1 plBody8 rfl ?_
  conv => arg 2; whnf
  go_wp2_with fail
  refine (awake8_any w HG.out).mono ?_
  rintro e0 w0 ⟨rfl, hB0⟩
  have HB0 := Lib.hid hB0
  have hA1 := hB0.alloc hB0.size (.cells #[.string d] 9)
  have KR := Lib.hid (lread_any (.slice (some ⟨w0.heap.size, 0, none⟩) 1 1) [d] (w0.alloc (.cells #[.string d] 9)) (HG.out.later hA1) (sts_box1 (heap_alloc_new w0 _)) (by simp) (fun x hx => by rw [List.mem_singleton.1 hx]; exact hd))
  have HA1 := Lib.hid hA1
  clear hB0 hA1
  go_wp2_with fail
  refine wp_sec 2 plBody8 rfl ?_
  conv => arg 2; whnf
  go_wp2_with fail
  refine KR.out.mono ?_
  rintro e1 w1 ⟨hB1, hres⟩
  have HB1 := Lib.hid (Below.then HA1.out hB1)
  obtain ⟨o, ho⟩ : ∃ o, o = Ep.readR [d] := ⟨_, rfl⟩
  rw [← ho] at hres
  have HO := Lib.hid ho
  clear hB1 ho
  have hex : ∃ mv is, e1 = .returned (.tuple #[mv, .bool is]) ∧ ((is = false ∧ o = none) ∨ (is = true ∧ ∃ ms, o = some ms ∧ MsV w1 mv ms)) := by
    cases o with
    | none => exact ⟨_, false, hres, .inl ⟨rfl, rfl⟩⟩
    | some ms => obtain ⟨mv, e, hm⟩ := hres; exact ⟨mv, true, e, .inr ⟨rfl, ms, rfl, hm⟩⟩
  obtain ⟨mv, is, rfl, his⟩ := hex
  have HIS := Lib.hid his
  clear hres his
  go_wp2_with fail
  refine wp_sec 3 plBody8 rfl ?_
  conv => arg 2; whnf
  go_wp2_with fail
  refine (tokens_any 0 a (by omega) _ (HG.out.later HB1.out)).mono ?_
  rintro e2 w2 ⟨tv, rfl, htv, hB2⟩
  have HB2 := Lib.hid (Below.then HB1.out hB2)
  have HB12 := Lib.hid hB2
  have HTV := Lib.hid htv.ks
  clear htv hB2
  go_wp2_with fail
  refine wp_sec 4 plBody8 rfl ?_
  conv => arg 2; whnf
  go_wp2_with fail
  refine (tokens_any 0 b (by omega) _ (HG.out.later HB2.out)).mono ?_
  rintro e3 w3 ⟨uv, rfl, huv, hB3⟩
  have HB3 := Lib.hid (Below.then HB2.out hB3)
  have hk1 : Ks w3 tv (Ep.toksAt 0 a.data.toList) := HTV.out.below hB3
  have hk2 : Ks w3 uv (Ep.toksAt 0 b.data.toList) := huv.ks
  have HB13 := Lib.hid (Below.then HB12.out hB3)
  have hsa : a.data.toList.length = a.size := size_list a
  have hsb : b.data.toList.length = b.size := size_list b
  have hla := Ep.toksAt_len 0 a.data.toList
  have hlb := Ep.toksAt_len 0 b.data.toList
  have hza := Ep.toksAt_short 0 a.data.toList
  have hzb := Ep.toksAt_short 0 b.data.toList
  obtain ⟨A, hA⟩ : ∃ A, A = Ep.toksAt 0 a.data.toList := ⟨_, rfl⟩
  obtain ⟨B, hBq⟩ : ∃ B, B = Ep.toksAt 0 b.data.toList := ⟨_, rfl⟩
  rw [← hA] at hla hza hk1
  rw [← hBq] at hlb hzb hk2
  obtain ⟨ad, ac, rfl, -⟩ := id hk1
  obtain ⟨bd, bc, rfl, -⟩ := id hk2
  obtain ⟨na, hna⟩ : ∃ n, n = A.length := ⟨_, rfl⟩
  obtain ⟨nb, hnb⟩ : ∃ n, n = B.length := ⟨_, rfl⟩
  rw [← hna] at hk1 hla ⊢
  rw [← hnb] at hk2 hlb ⊢
  have HNA := Lib.hid hna
  have HNB := Lib.hid hnb
  have HZA := Lib.hid hza
  have HZB := Lib.hid hzb
  have HK1 := Lib.hid hk1
  have HK2 := Lib.hid hk2
  clear huv hB3 hA hBq hna hnb hza hzb hk1 hk2 HTV
  rcases HIS.out with ⟨rfl, h0⟩ | ⟨rfl, ms, h0, hM⟩
  · go_wp2_with fail
    refine wp_sec 5 plBody8 rfl ?_
    conv => arg 2; whnf
    go_wp2_with fail
    go_ret
    exact ⟨rfl, HB3.out⟩
  · have hone := readR_one (HO.out.symm.trans h0)
    obtain ⟨m, rfl, hsm, hd200, hmd⟩ := hone
    have hsn : m.name.size ≤ 1000000 := by
      have hsd : d.data.toList.length = d.size := size_list d
      rw [hmd]
      have := defi_name (Ep.toksAt (((0 : Nat) : Int) + 1) d.data.toList) 200 (fun t ht => by have := Ep.toksAt_short _ _ t ht; omega)
      exact Nat.le_trans this (by decide)
    have hM3 := hM.below HB13.out
    obtain ⟨mg, mo, mc, rfl⟩ : ∃ mg mo mc, mv = .slice (some ⟨mg, mo, none⟩) 1 mc := by
      obtain ⟨ad1, cap1, rfl, -, -, h3⟩ := id hM3
      obtain ⟨g, o, rfl, -⟩ := h3 0 m rfl
      exact ⟨g, o, cap1, rfl⟩
    obtain ⟨ba, bcap, b1, -, -⟩ := msv_body hM3
    have HM3 := Lib.hid hM3
    have HSM := Lib.hid hsm
    have HSN := Lib.hid hsn
    have hmgl := lt_of_cell b1
    obtain ⟨fn, hfn⟩ : ∃ fn, fn = m.fn := ⟨_, rfl⟩
    rw [← hfn] at b1
    have HFN := Lib.hid hfn
    clear hM hM3 hmd hsm hsn h0 hfn
    cases fn with
    | true =>
      go_wp2_with fail
      refine wp_sec 5 plBody8 rfl ?_
      conv => arg 2; whnf
      go_wp2_with fail
      go_ret
      exact ⟨rfl, HB3.out⟩
    | false =>
      by_cases h1 : 200 < a.size
      · have z1 : (200 : Int) < a.size := by omega
        go_wp2_with fail
        refine wp_sec 5 plBody8 rfl ?_
        conv => arg 2; whnf
        go_wp2_with fail
        go_ret
        exact ⟨rfl, HB3.out⟩
      · have z1 : ¬ (200 : Int) < a.size := by omega
        by_cases h2 : 200 < b.size
        · have z2 : (200 : Int) < b.size := by omega
          go_wp2_with fail
          refine wp_sec 5 plBody8 rfl ?_
          conv => arg 2; whnf
          go_wp2_with fail
          go_ret
          exact ⟨rfl, HB3.out⟩
        · have z2 : ¬ (200 : Int) < b.size := by omega
          go_wp2_with fail
          refine wp_sec 5 plBody8 rfl ?_
          conv => arg 2; whnf
          go_wp2_with fail
          exact plain_loop6 w w3 mg mo mc na nb ad bd ac bc m A B _ _ _ _ _ _ _ _ _ _ _ _ _ _ _ _ _ _ _ _ _ _ _ _ _ _ _ _ _ _ _ _ _ _ _ _ _ _ _ _ _ _ _ _ _ _ _ _ _ _ _ _ _ _ _ _ _ _ _ _ _ _ _ _ _ _ _ _ _ _ _ _ _ _ _ _ _ _ _ _ _ _ _ _ _ _ _ _ _ _ _ _ _ _ _ _ _ _ _ _ _ _ _ _ _ _ _ _ _ _ _ _ _ _ _ _ _ _ _ _ _ _ _ _ _ _ _ _ _ _ _ _ _ _ _ _ _ _ _ _ _ _ _ _ _ _ _ _ _ _ _ _ _ _ _ _ _ _ _ _ _ _ _ _ _ _ _ _ _ _ _ _ _ _ _ _ _ _ _ _ _ _ _ _ _ _ HM3.out HK1.out HK2.out HNA.out HNB.out (by omega) (by omega) (fun t ht => Nat.le_trans (HZA.out t ht) (by omega)) (fun t ht => Nat.le_trans (HZB.out t ht) (by omega)) HSM.out HSN.out HFN.out.symm HG.out HB3.out
end Go.Proofs.YtlepnafgcmeimaaGreatDoor

/- What is proved: no name is replaced within what came of it (the law ExpandSelf), in whatever memory: the walk. -/
namespace Go.Proofs.YtlepnafgcmeimaaGreatDoor
open Go.RowKit Go.Shelf
open Mx (M HH)

set_option maxRecDepth 100000 in
set_option maxHeartbeats 8000000 in
theorem lself_any (name a b : ByteArray) (w : World) (hG : Glob w) (hn : name.size ≤ 2000000) (ha : a.size ≤ 2000000) (hb : b.size ≤ 2000000) :
    Calls Tryz.prog 6 #[.string name, .string a, .string b] w (TruePost w) := by
  have HG := Lib.hid hG
  obtain ⟨o, ho⟩ : ∃ o, o = oneOf name.data.toList := ⟨_, rfl⟩
  have KO := fun w h => one_any name (by omega) w h
  rw [← ho] at KO
  clear hG ho
  go_enter Tryz.func6, Tryz.ntmps6
  go_wp2_with fail
  refine (awake8_any w HG.out).mono ?_
  rintro e0 w0 ⟨rfl, hB0⟩
  have HB0 := Lib.hid hB0
  have KO2 := Lib.hid (KO w0 (HG.out.later hB0))
  clear hB0 KO
  go_wp2_with fail
  refine KO2.out.mono ?_
  rintro e1 w1 ⟨rfl, hB1⟩
  obtain ⟨T, hT⟩ : ∃ T, T = o.getD zeroTok := ⟨_, rfl⟩
  obtain ⟨is, his⟩ : ∃ is, is = o.isSome := ⟨_, rfl⟩
  rw [← hT, ← his]
  unfold tokAgg
  obtain ⟨kd, hkd⟩ : ∃ kd : Int, kd = T.kind := ⟨_, rfl⟩
  obtain ⟨tx, htx⟩ : ∃ tx : ByteArray, tx = ⟨T.text.toArray⟩ := ⟨_, rfl⟩
  obtain ⟨fr, hfr⟩ : ∃ fr : Int, fr = T.fr := ⟨_, rfl⟩
  obtain ⟨en, hen⟩ : ∃ en : Int, en = T.to := ⟨_, rfl⟩
  obtain ⟨tb, htb⟩ : ∃ tb, tb = T.bl := ⟨_, rfl⟩
  rw [← hkd, ← htx, ← hfr, ← hen, ← htb]
  have HB1 := Lib.hid (Below.then HB0.out hB1)
  have hc : is = false ∨ (is = true ∧ kd ≠ 1) ∨ (is = true ∧ kd = 1 ∧ 50 < name.size) ∨ (is = true ∧ kd = 1 ∧ ¬ 50 < name.size ∧ 100 < a.size) ∨ (is = true ∧ kd = 1 ∧ ¬ 50 < name.size ∧ ¬ 100 < a.size ∧ 100 < b.size) ∨ (is = true ∧ kd = 1 ∧ ¬ 50 < name.size ∧ ¬ 100 < a.size ∧ ¬ 100 < b.size) := by
    cases is <;> by_cases h1 : kd = 1 <;> by_cases h2 : 50 < name.size <;> by_cases h3 : 100 < a.size <;> by_cases h4 : 100 < b.size <;> simp [h1, h2, h3, h4]
  clear hB1 hT his hkd htx hfr hen htb T
  rcases hc with rfl | ⟨rfl, h1⟩ | ⟨rfl, rfl, h2⟩ | ⟨rfl, rfl, h2, h3⟩ | ⟨rfl, rfl, h2, h3, h4⟩ | ⟨rfl, rfl, h2, h3, h4⟩
  · go_wp2_with fail
    go_ret
    exact ⟨rfl, HB1.out.alloc HB1.out.size _⟩
  · have q1 : (kd == 1) = false := by simpa using h1
    have q1' : (kd != 1) = true := by simpa using h1
    go_wp2_with fail
    go_ret
    exact ⟨rfl, HB1.out.alloc HB1.out.size _⟩
  · have z2 : (50 : Int) < name.size := by omega
    go_wp2_with fail
    go_ret
    exact ⟨rfl, HB1.out.alloc HB1.out.size _⟩
  · have z2 : ¬ (50 : Int) < name.size := by omega
    have z3 : (100 : Int) < a.size := by omega
    go_wp2_with fail
    go_ret
    exact ⟨rfl, HB1.out.alloc HB1.out.size _⟩
  · have z2 : ¬ (50 : Int) < name.size := by omega
    have z3 : ¬ (100 : Int) < a.size := by omega
    have z4 : (100 : Int) < b.size := by omega
    go_wp2_with fail
    go_ret
    exact ⟨rfl, HB1.out.alloc HB1.out.size _⟩
  · have z2 : ¬ (50 : Int) < name.size := by omega
    have z3 : ¬ (100 : Int) < a.size := by omega
    have z4 : ¬ (100 : Int) < b.size := by omega
    go_wp2_with fail
    have hA1 := HB1.out.alloc HB1.out.size (.cells #[.int .i64 1, .string tx, .int .i64 0, .int .i64 fr, .int .i64 en, .bool tb] 30)
    have HA1 := Lib.hid hA1
    clear hA1
    refine (tokens_any 0 a (by omega) _ (HG.out.later HA1.out)).mono ?_
    rintro e2 w2 ⟨tv, rfl, htv, hB2⟩
    have HB2 := Lib.hid (Below.then HA1.out hB2)
    have HTV := Lib.hid htv.ks
    clear htv hB2
    go_wp2_with fail
    refine (tokens_any 0 b (by omega) _ (HG.out.later HB2.out)).mono ?_
    rintro e3 w3 ⟨uv, rfl, huv, hB3⟩
    have HB3 := Lib.hid (Below.then HB2.out hB3)
    have hsa : a.data.toList.length = a.size := size_list a
    have hsb : b.data.toList.length = b.size := size_list b
    have hla := Ep.toksAt_len 0 a.data.toList
    have hlb := Ep.toksAt_len 0 b.data.toList
    have hza := Ep.toksAt_short 0 a.data.toList
    have hzb := Ep.toksAt_short 0 b.data.toList
    have hk1 : Ks w3 tv (Ep.toksAt 0 a.data.toList) := HTV.out.below hB3
    have hk2 : Ks w3 uv (Ep.toksAt 0 b.data.toList) := huv.ks
    obtain ⟨A, hA⟩ : ∃ A, A = Ep.toksAt 0 a.data.toList := ⟨_, rfl⟩
    obtain ⟨B, hBq⟩ : ∃ B, B = Ep.toksAt 0 b.data.toList := ⟨_, rfl⟩
    rw [← hA] at hla hza hk1
    rw [← hBq] at hlb hzb hk2
    obtain ⟨ad, ac, rfl, -⟩ := id hk1
    obtain ⟨bd, bc, rfl, -⟩ := id hk2
    obtain ⟨na, hna⟩ : ∃ n, n = A.length := ⟨_, rfl⟩
    obtain ⟨nb, hnb⟩ : ∃ n, n = B.length := ⟨_, rfl⟩
    rw [← hna] at hk1 hla ⊢
    rw [← hnb] at hk2 hlb ⊢
    have HNA := Lib.hid hna
    have HNB := Lib.hid hnb
    have HZA := Lib.hid hza
    have HZB := Lib.hid hzb
    have HK1 := Lib.hid hk1
    have HK2 := Lib.hid hk2
    have hBe : Below w3.heap.size w3 (w3.alloc (.cells #[] 30)) := (Below.refl _ w3).alloc (Nat.le_refl _) _
    have hre := row_emptyK w3
    clear huv hB3 hA hBq hna hnb hza hzb hk1 hk2 HTV
    have hlit : (name = Mx.DF) ∨ (name ≠ Mx.DF ∧ name = Mx.VA) ∨ (name ≠ Mx.DF ∧ name ≠ Mx.VA) := by
      by_cases p1 : name = Mx.DF
      · exact .inl p1
      · by_cases p2 : name = Mx.VA
        · exact .inr (.inl ⟨p1, p2⟩)
        · exact .inr (.inr ⟨p1, p2⟩)
    rcases hlit with p1 | ⟨p1, p2⟩ | ⟨p1, p2⟩
    · have t1 : (name.toList == [100, 101, 102, 105, 110, 101, 100]) = true := lit_yes p1
      clear p1
      go_wp2_with (first
        | (at_builtin; refine wpList_append_ks rfl _ _ rfl w3.heap.size (.slice (some ⟨w3.heap.size, 0, none⟩) 0 0) 0 [] rfl hre (.slice ad na ac) A rfl (HK1.out.below hBe) (by rw [← HNA.out]; omega) (by simp) ?_; intro x4 w4 hr4 hg4; have hB4 := hBe.grown hg4 (by simp) (by intro k e; simp [Value.ownBlock] at e; omega))
        | (at_builtin; refine wpList_append_ks rfl _ _ rfl w3.heap.size x4 _ _ rfl (hr4.alloc _) (.slice (some ⟨w4.heap.size, 0, none⟩) 1 1) [⟨1, name, 0, 0, 0, true⟩] rfl (ks_one (heap_alloc_new w4 (.cells #[.int .i64 1, .string name, .int .i64 0, .int .i64 0, .int .i64 0, .bool true] 30))) (by rw [← HNA.out]; simp; omega) (by have := hB4.size; simp; omega) ?_; intro x5 w5 hr5 hg5; have hB5 := (hB4.alloc hB4.size (.cells #[.int .i64 1, .string name, .int .i64 0, .int .i64 0, .int .i64 0, .bool true] 30)).grown hg5 (by have := hB4.size; simp; omega) (fun k e => (hr4.lt k e).1))
        | (at_builtin; refine wpList_append_ks rfl _ _ rfl w3.heap.size x5 _ _ rfl hr5 (.slice bd nb bc) B rfl (HK2.out.below hB5) (by rw [← HNA.out, ← HNB.out]; simp; omega) hB5.size ?_; intro x6 w6 hr6 hg6; have hB6 := hB5.grown hg6 hB5.size (fun k e => (hr5.lt k e).1)))
      go_ret
      exact ⟨rfl, Below.then HB3.out hB6⟩
    · have t1 : (name.toList == [100, 101, 102, 105, 110, 101, 100]) = false := lit_no p1
      have t2 : (name.toList == [95, 95, 86, 65, 95, 65, 82, 71, 83, 95, 95]) = true := lit_yes p2
      clear p1 p2
      go_wp2_with (first
        | (at_builtin; refine wpList_append_ks rfl _ _ rfl w3.heap.size (.slice (some ⟨w3.heap.size, 0, none⟩) 0 0) 0 [] rfl hre (.slice ad na ac) A rfl (HK1.out.below hBe) (by rw [← HNA.out]; omega) (by simp) ?_; intro x4 w4 hr4 hg4; have hB4 := hBe.grown hg4 (by simp) (by intro k e; simp [Value.ownBlock] at e; omega))
        | (at_builtin; refine wpList_append_ks rfl _ _ rfl w3.heap.size x4 _ _ rfl (hr4.alloc _) (.slice (some ⟨w4.heap.size, 0, none⟩) 1 1) [⟨1, name, 0, 0, 0, true⟩] rfl (ks_one (heap_alloc_new w4 (.cells #[.int .i64 1, .string name, .int .i64 0, .int .i64 0, .int .i64 0, .bool true] 30))) (by rw [← HNA.out]; simp; omega) (by have := hB4.size; simp; omega) ?_; intro x5 w5 hr5 hg5; have hB5 := (hB4.alloc hB4.size (.cells #[.int .i64 1, .string name, .int .i64 0, .int .i64 0, .int .i64 0, .bool true] 30)).grown hg5 (by have := hB4.size; simp; omega) (fun k e => (hr4.lt k e).1))
        | (at_builtin; refine wpList_append_ks rfl _ _ rfl w3.heap.size x5 _ _ rfl hr5 (.slice bd nb bc) B rfl (HK2.out.below hB5) (by rw [← HNA.out, ← HNB.out]; simp; omega) hB5.size ?_; intro x6 w6 hr6 hg6; have hB6 := hB5.grown hg6 hB5.size (fun k e => (hr5.lt k e).1)))
      go_ret
      exact ⟨rfl, Below.then HB3.out hB6⟩
    · have t1 : (name.toList == [100, 101, 102, 105, 110, 101, 100]) = false := lit_no p1
      have t2 : (name.toList == [95, 95, 86, 65, 95, 65, 82, 71, 83, 95, 95]) = false := lit_no p2
      clear p1 p2
      go_wp2_with (first
        | (at_builtin; refine wpList_append_ks rfl _ _ rfl w3.heap.size (.slice (some ⟨w3.heap.size, 0, none⟩) 0 0) 0 [] rfl hre (.slice ad na ac) A rfl (HK1.out.below hBe) (by rw [← HNA.out]; omega) (by simp) ?_; intro x4 w4 hr4 hg4; have hB4 := hBe.grown hg4 (by simp) (by intro k e; simp [Value.ownBlock] at e; omega))
        | (at_builtin; refine wpList_append_ks rfl _ _ rfl w3.heap.size x4 _ _ rfl (hr4.alloc _) (.slice (some ⟨w4.heap.size, 0, none⟩) 1 1) [⟨1, name, 0, 0, 0, true⟩] rfl (ks_one (heap_alloc_new w4 (.cells #[.int .i64 1, .string name, .int .i64 0, .int .i64 0, .int .i64 0, .bool true] 30))) (by rw [← HNA.out]; simp; omega) (by have := hB4.size; simp; omega) ?_; intro x5 w5 hr5 hg5; have hB5 := (hB4.alloc hB4.size (.cells #[.int .i64 1, .string name, .int .i64 0, .int .i64 0, .int .i64 0, .bool true] 30)).grown hg5 (by have := hB4.size; simp; omega) (fun k e => (hr4.lt k e).1))
        | (at_builtin; refine wpList_append_ks rfl _ _ rfl w3.heap.size x5 _ _ rfl hr5 (.slice bd nb bc) B rfl (HK2.out.below hB5) (by rw [← HNA.out, ← HNB.out]; simp; omega) hB5.size ?_; intro x6 w6 hr6 hg6; have hB6 := hB5.grown hg6 hB5.size (fun k e => (hr5.lt k e).1)))
      have hrow : w6.ownsRow w3.heap.size 30 6 x6 (na + 1 + nb) (ksCells (A ++ ⟨1, name, 0, 0, 0, true⟩ :: B)) := by
        have := hr6
        simp only [List.nil_append, List.append_assoc, List.singleton_append, List.length_singleton, Nat.zero_add, ← HNA.out, ← HNB.out] at this
        exact this
      have hB7 := Below.then HB3.out hB6
      have HROW := Lib.hid hrow
      have HB6 := Lib.hid hB6
      have HB7 := Lib.hid hB7
      clear hr4 hr5 hr6 hg4 hg5 hg6 hB4 hB5 hB6 hB7 hBe hre hrow
      obtain ⟨N, hN⟩ : ∃ N, N = na + 1 + nb := ⟨_, rfl⟩
      obtain ⟨L, hL⟩ : ∃ L, L = A ++ ⟨1, name, 0, 0, 0, true⟩ :: B := ⟨_, rfl⟩
      have hrow := HROW.out
      rw [← hN, ← hL] at hrow
      have hLN : L.length = N := by rw [hL, hN, HNA.out, HNB.out]; simp; omega
      have hks : Ks w6 x6 L := Ks.of_row (by rw [hLN]; exact hrow)
      obtain ⟨g, cap, rfl⟩ : ∃ g cap, x6 = .slice (some ⟨g, 0, none⟩) N cap := by
        rcases hrow.2 with ⟨_, h0⟩ | ⟨g, cap, cur, h', _⟩
        · omega
        · exact ⟨g, cap, h'⟩
      have HRW := Lib.hid hrow
      have HKS := Lib.hid hks
      have HL := Lib.hid hL
      have HLN := Lib.hid hLN
      have HN := Lib.hid hN
      have hN2 : N ≤ 201 := by omega
      have hN0 : 0 < N := by omega
      clear hrow hks hL hLN hN HROW
      go_loopw [13] (fun i wr => ∃ (k : Nat), i = .int .i64 k ∧ k ≤ N ∧ BodyOk na L k ∧ Below w6.heap.size w6 wr) (fun i _ => N - (intOf i).toNat)
      case atStart => exact ⟨0, rfl, Nat.zero_le _, fun i t hi => by omega, Below.refl _ _⟩
      case round =>
        obtain ⟨k, rfl, hk, hok, hB⟩ := hrel
        have HBL := Lib.hid hB
        have HOK := Lib.hid hok
        by_cases hlt : k < N
        · obtain ⟨t, ht⟩ : ∃ t, L[k]? = some t := ⟨_, List.getElem?_eq_getElem (by rw [HLN.out]; exact hlt)⟩
          have hat := ks_at (HKS.out.below hB) ht
          have HT := Lib.hid ht
          rw [Nat.zero_add] at hat
          obtain ⟨d0, d1, d2, d3, d4, d5⟩ := hat
          obtain ⟨kd, tx, f, fr, en, bl⟩ := t
          dsimp only at d0 d1 d2 d3 d4 d5
          have z5 : (0 : Int) ≤ k := by omega
          have z6 : (k : Int) < N := by omega
          clear hB hok ht
          by_cases h7 : kd = 7
          · have q7 : (kd == 7) = true := by simpa using h7
            clear h7
            go_wp2_with fail
            go_ret
            exact ⟨rfl, Below.then HB7.out HBL.out⟩
          · have q7 : (kd == 7) = false := by simpa using h7
            have hcase : (k ≠ na ∧ kd = 1) ∨ ¬ (k ≠ na ∧ kd = 1) := Decidable.em _
            rcases hcase with ⟨h8, h9⟩ | h8
            · have q8 : ((k : Int) != na) = true := by simp; omega
              have q8' : ((k : Int) == na) = false := by simp; omega
              have q9 : (kd == 1) = true := by simpa using h9
              clear h7 h8 h9
              go_wp2_with fail
              go_ret
              exact ⟨rfl, Below.then HB7.out HBL.out⟩
            · have hor : (k = na) ∨ (k ≠ na ∧ kd ≠ 1) := by
                by_cases e : k = na
                · exact .inl e
                · exact .inr ⟨e, fun h => h8 ⟨e, h⟩⟩
              have hq : ((k : Int) != na) = false ∨ (((k : Int) != na) = true ∧ (kd == 1) = false) := by
                rcases hor with e | ⟨e, e2⟩
                · left; simp; omega
                · right; exact ⟨by simp; omega, by simpa using e2⟩
              have HCE : Hid (k ≠ na → kd ≠ 1) := Lib.hid (fun e h => h8 ⟨e, h⟩)
              have H7 := Lib.hid h7
              clear h7 h8 hor
              by_cases hh : tx = HH
              · have t3 : (tx.toList == [35, 35]) = true := lit_yes hh
                clear hh
                rcases hq with q8 | ⟨q8, q9⟩
                all_goals
                  go_wp2_with fail
                  go_ret
                  exact ⟨rfl, Below.then HB7.out HBL.out⟩
              · have t3 : (tx.toList == [35, 35]) = false := lit_no hh
                have hok2 : BodyOk na L (k + 1) := HOK.out.snoc HT.out H7.out HCE.out hh
                have HOK2 := Lib.hid hok2
                clear hh hok2
                rcases hq with q8 | ⟨q8, q9⟩
                all_goals
                  go_wp2_with fail
                  go_roundw
                  case rel => exact ⟨k + 1, by go_num, by omega, HOK2.out, HBL.out⟩
                  case measure => simp [intOf]; omega
        · obtain rfl : k = N := by omega
          have hrow := row_heapK HRW.out (Kept.of_below hB _)
          have hB8 := Below.then HB7.out hB
          obtain ⟨cs, hbk, hbase⟩ : ∃ cs, wr.heap[g]? = some (.cells cs 30 (0, 0)) ∧ w3.heap.size ≤ g := by
            rcases hrow.2 with ⟨h', _⟩ | ⟨g', cap', cur, h', hb1, hb, _⟩
            · cases h'
            · injection h' with e1 e2 e3
              injection e1 with e1
              injection e1 with e1
              exact ⟨cur, by rw [e1]; exact hb, by rw [e1]; exact hb1⟩
          obtain ⟨t0, ht0⟩ : ∃ t, L[0]? = some t := ⟨_, List.getElem?_eq_getElem (by rw [HLN.out]; exact hN0)⟩
          have hat := ks_at (HKS.out.below hB) ht0
          rw [Nat.zero_mul, Nat.zero_add] at hat
          have hc5 : wr.cell? ⟨g, 5, none⟩ = some (.bool t0.bl) := hat.2.2.2.2.2
          have hf5 : wr.frozen? ⟨g, 5, none⟩ = false := by simp [World.frozen?, hbk]
          have hset := (hrow.stored 5 (.bool false)).1
          have hcs : (ksCells L).set 5 (.bool false) = ksCells (noBl L) := by
            have h := ksCells_set L 0 t0 false ht0
            rw [show 0 * 6 + 5 = 5 from rfl] at h
            rw [h]
            congr 1
            cases L with
            | nil => simp at ht0
            | cons a r => simp only [List.getElem?_cons_zero, Option.some.injEq] at ht0; subst ht0; rfl
          rw [hcs] at hset
          have hkn := Ks.of_row (ts := noBl L) (by rw [noBl_len, HLN.out]; exact hset)
          have hw3 := HB3.out.size
          have hB9 : Below w.heap.size w (wr.setCell ⟨g, 5, none⟩ (.bool false)) := hB8.setCell (by show w.heap.size ≤ g; omega) _
          have hgl : g < wr.heap.size := lt_of_heap hbk
          have hsX : (wr.setCell ⟨g, 5, none⟩ (.bool false)).heap.size = wr.heap.size := by simp
          have hL2 := HL.out
          have hok2 : BodyOk A.length (A ++ ⟨1, name, 0, 0, 0, true⟩ :: B) (A ++ ⟨1, name, 0, 0, 0, true⟩ :: B).length := by
            rw [← hL2, HLN.out, ← HNA.out]; exact hok
          obtain ⟨XX, y, hrun, hy⟩ := self_run name A B _ rfl hok2 (by rw [← HNA.out]; omega) (by rw [← HNB.out]; omega) (fun t ht => Nat.le_trans (HZA.out t ht) (by omega)) (fun t ht => Nat.le_trans (HZB.out t ht) (by omega)) (by omega)
          rw [← hL2] at hrun hy
          have hbn : (noBl L).length ≤ 201 := by rw [noBl_len, HLN.out]; exact hN2
          have hbz : ∀ u ∈ noBl L, u.text.size ≤ 1000000000 := fun u hu => by
            have := (noBl_mem (nl := na) (nm := ⟨1, name, 0, 0, 0, true⟩) (l := L) (by rw [HLN.out]; exact hok) (by rw [hL2, HNA.out, List.getElem?_append_right (Nat.le_refl _), Nat.sub_self]; rfl)) u hu
            obtain ⟨u', hu', e⟩ := this.2.2
            rw [hL2] at hu'
            rw [← e]
            rcases List.mem_append.1 hu' with h | h
            · have := HZA.out u' h; omega
            · rcases List.mem_cons.1 h with rfl | h
              · show name.size ≤ _; omega
              · have := HZB.out u' h; omega
          obtain ⟨X, hX⟩ : ∃ X, X = wr.setCell ⟨g, 5, none⟩ (.bool false) := ⟨_, rfl⟩
          rw [← hX] at hkn hB9 hsX
          have hb3 := fun o1 o2 o3 : Obj => (((Below.refl X.heap.size X).alloc (Nat.le_refl _) o1).alloc (by simp) o2).alloc (by simp; omega) o3
          have hk3 := hkn.below (hb3 (.cells #[.string name, .bool false, .slice none 0 0, .bool false, .slice (some ⟨g, 0, none⟩) k cap] 32) (.cells #[.string name, .bool false, .slice none 0 0, .bool false, .slice (some ⟨g, 0, none⟩) k cap] 32) (.cells #[.int .i64 1, .string name, .int .i64 0, .int .i64 0, .int .i64 0, .bool false] 30))
          have hbw := hb3 (.cells #[.string name, .bool false, .slice none 0 0, .bool false, .slice (some ⟨g, 0, none⟩) k cap] 32) (.cells #[.string name, .bool false, .slice none 0 0, .bool false, .slice (some ⟨g, 0, none⟩) k cap] 32) (.cells #[.int .i64 1, .string name, .int .i64 0, .int .i64 0, .int .i64 0, .bool false] 30)
          have hm2 := heap_alloc2_new X (.cells #[.string name, .bool false, .slice none 0 0, .bool false, .slice (some ⟨g, 0, none⟩) k cap] 32) (.cells #[.string name, .bool false, .slice none 0 0, .bool false, .slice (some ⟨g, 0, none⟩) k cap] 32)
          have hm3 := (((Below.refl _ ((X.alloc (.cells #[.string name, .bool false, .slice none 0 0, .bool false, .slice (some ⟨g, 0, none⟩) k cap] 32)).alloc (.cells #[.string name, .bool false, .slice none 0 0, .bool false, .slice (some ⟨g, 0, none⟩) k cap] 32))).alloc (Nat.le_refl _) (.cells #[.int .i64 1, .string name, .int .i64 0, .int .i64 0, .int .i64 0, .bool false] 30)).block _ (lt_of_heap hm2)).trans hm2
          have ht3 := heap_alloc_new ((X.alloc (.cells #[.string name, .bool false, .slice none 0 0, .bool false, .slice (some ⟨g, 0, none⟩) k cap] 32)).alloc (.cells #[.string name, .bool false, .slice none 0 0, .bool false, .slice (some ⟨g, 0, none⟩) k cap] 32)) (.cells #[.int .i64 1, .string name, .int .i64 0, .int .i64 0, .int .i64 0, .bool false] 30)
          rw [World.size_alloc, World.size_alloc] at ht3
          have hBf := Below.then hB9 hbw
          have KE := expand_any (.slice (some ⟨X.heap.size + 1, 0, none⟩) 1 1) (.slice (some ⟨X.heap.size + 1 + 1, 0, none⟩) 1 1) [⟨name, false, [], false, noBl L⟩] [⟨1, name, 0, 0, 0, false⟩] _
            (msv_one (m := ⟨name, false, [], false, noBl L⟩) hm3 ⟨.slice none 0 0, .slice (some ⟨g, 0, none⟩) k cap, rfl, ⟨none, 0, rfl, Nat.le_refl _, Nat.zero_le _, fun i s h => by simp at h⟩, hk3⟩) (ks_one (t := ⟨1, name, 0, 0, 0, false⟩) ht3) (HG.out.later hBf)
            (fun m hm => by rw [List.mem_singleton.1 hm]; exact ⟨by simp, by simp, by show (noBl L).length ≤ _; omega, hbz⟩) (by simp) (by simp) 5000 _ hrun
          rw [hsX] at KE
          have HKE := Lib.hid KE
          have HK3 := Lib.hid hk3
          have HBF := Lib.hid hBf
          have HX := Lib.hid hX
          have HY := Lib.hid hy
          have HBN := Lib.hid hbn
          clear hB hok hat ht0 hset hcs KE hk3 hBf hbw hm2 hm3 ht3 hb3 hkn hB9 hsX hX hy hrun hbz hok2 hL2 hrow hB8 hbn
          go_wp2_with fail
          rw [← HX.out]
          refine HKE.out.mono ?_
          rintro e8 w8 ⟨hB10, u, rfl, hu⟩
          have HB10 := Lib.hid (Below.then HBF.out hB10)
          have hsm := sameK_any u (.slice (some ⟨g, 0, none⟩) k cap) (noBl L) w8 (by rw [← HY.out]; exact hu) (HK3.out.below hB10) (by have := HBN.out; omega)
          have HSM := Lib.hid hsm
          clear hsm hu hB10 hc5 hf5 hbk
          go_wp2_with fail
          refine HSM.out.mono ?_
          rintro e9 w9 ⟨rfl, hB11⟩
          have HB11 := Lib.hid (Below.then HB10.out hB11)
          clear hB11
          go_wp2_with fail
          go_ret
          exact ⟨rfl, HB11.out⟩
end Go.Proofs.YtlepnafgcmeimaaGreatDoor
