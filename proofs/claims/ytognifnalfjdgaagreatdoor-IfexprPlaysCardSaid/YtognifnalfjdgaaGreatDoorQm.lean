/- What is proved: what stands ahead, by the document (ahead): brackets, numbers, quotes, names. (and what stands with it) -/
import Derived.Test.YtognifnalfjdgaaGreatDoorQl
import Derived.Test.YtognifnalfjdgaaGreatDoorQh

/- What is proved: what stands ahead, by the document (ahead): brackets, numbers, quotes, names. -/
namespace Go.Proofs.YtognifnalfjdgaaGreatDoor
open Go.RowKit Go.Shelf

theorem Ie.number_in {l : List UInt8} {n : Nat} (h : Ie.number l = some n) : n ≤ Ie.most := by
  unfold Ie.number at h
  dsimp only at h
  split at h
  · cases h
  · split at h
    · cases h
    · split at h
      · cases h
      · rename_i hm
        cases h
        omega
theorem Ie.esc_in {c : UInt8} {n : Nat} (h : Ie.esc c = some n) : n ≤ 255 := by
  have key : ∀ (c : Prop) [Decidable c] (a : Nat) (r : Option Nat), a ≤ 255 → (∀ n : Nat, r = some n → n ≤ 255) → ∀ n : Nat, (if c then some a else r) = some n → n ≤ 255 := fun c _ a r ha hr n h => by
    split at h
    · cases h; exact ha
    · exact hr n h
  have all : ∀ n : Nat, Ie.esc c = some n → n ≤ 255 := by
    unfold Ie.esc
    repeat (refine key _ _ _ (by decide) ?_)
    intro n h
    cases h
  exact all n h
theorem Ie.quote_in : ∀ {l : List UInt8} {n : Nat}, Ie.quote l = some n → n ≤ 255
  | [], _, h => by cases h
  | [_], _, h => by cases h
  | [_, _], _, h => by cases h
  | [a, b, c], n, h => by
    have h' : (if a = 39 ∧ c = 39 ∧ b ≠ 92 then some b.toNat else none) = some n := h
    split at h'
    · cases h'
      have := UInt8.toNat_lt b
      omega
    · cases h'
  | [a, b, c, d], n, h => by
    have h' : (if a = 39 ∧ d = 39 ∧ b = 92 then Ie.esc c else none) = some n := h
    split at h'
    · exact Ie.esc_in h'
    · cases h'
  | _ :: _ :: _ :: _ :: _ :: _, _, h => by cases h
theorem leaf_end {w w2 : World} {l : List K} {i : Nat} {R : Nat} {x : Ie.E} {s : ByteArray} {n : Int} (hB : Below w.heap.size w w2) (hlo : w.heap.size ≤ R) (hi : i + 1 ≤ l.length)
    (hN : ∀ W, Nd (fun b => w.heap.size ≤ b) W x s n (.slice none 0 0)) : RpPost l (some (x, l.drop (i + 1))) w (.returned (.tuple #[.agg #[.string s, .int .i64 n, .slice none 0 0], .int .i64 ((i : Int) + 1)])) (set3 w2 R s n (.slice none 0 0)) :=
  ⟨s, n, none, 0, (i : Int) + 1, rfl, set3_below hB R _ _ _ hlo, i + 1, by omega, hi, rfl, hN _⟩
theorem no_end {w W' : World} {l : List K} {s : ByteArray} {n : Int} {ad : Option Addr} {m : Nat} (hB : Below w.heap.size w W') : RpPost l none w (.returned (.tuple #[.agg #[.string s, .int .i64 n, .slice ad m m], .int .i64 (-1)])) W' :=
  ⟨s, n, ad, m, -1, rfl, hB, rfl⟩

set_option maxRecDepth 100000 in
set_option maxHeartbeats 8000000 in
theorem ah_2k (W : World) (v : Value) (i : Nat) (g : Int) (R T : Nat) (t : K) (hk : t.kind ≠ 5) (hT : KAt W T 0 t) (Q : Ending → World → Prop) (c3 c4 c5 c7 c9 c10 c11 c12 c13 c14 c15 c16 c17 c18 c19 c20 c21 c22 c23 c24 c25 c26 c27 c28 c29 c30 c31 c32 c33 c34 c35 c36 c37 c38 c39 c40 c41 c42 c43 c44 c45 c46 c47 c48 c49 c50 c51 c52 c53 c54 c55 c56 c57 c58 c59 c60 c61 c62 c63 c64 c65 c66 c67 c68 c69 c70 c71 c72 c73 c74 c75 c76 c77 c78 c79 c80 c81 c82 c83 c84 c85 c86 c87 c88 c89 c90 c91 c92 c93 c94 c95 c96 c97 c98 c99 c100 c101 c102 c103 c104 c105 c106 c107 c108 c109 c110 c111 c112 c113 c114 c115 : Value)
    (hc : ∀ (c3 c4 c5 c7 c9 c10 c11 c12 c13 c14 c15 c16 c17 c18 c19 c20 c21 c22 c23 c24 c25 c26 c27 c28 c29 c30 c31 c32 c33 c34 c35 c36 c37 c38 c39 c40 c41 c42 c43 c44 c45 c46 c47 c48 c49 c50 c51 c52 c53 c54 c55 c56 c57 c58 c59 c60 c61 c62 c63 c64 c65 c66 c67 c68 c69 c70 c71 c72 c73 c74 c75 c76 c77 c78 c79 c80 c81 c82 c83 c84 c85 c86 c87 c88 c89 c90 c91 c92 c93 c94 c95 c96 c97 c98 c99 c100 c101 c102 c103 c104 c105 c106 c107 c108 c109 c110 c111 c112 c113 c114 c115 : Value), Code.wp Tryz.prog (secs 3 ahBody) (bodyPost Tryz.prog Tryz.f57 Q) ⟨#[v, .int .i64 i, .int .i64 g, c3, c4, c5, .pointer (some ⟨R, 0, none⟩), c7, .pointer (some ⟨T, 0, none⟩), c9, c10, c11, c12, c13, c14, c15, c16, c17, c18, c19, c20, c21, c22, c23, c24, c25, c26, c27, c28, c29, c30, c31, c32, c33, c34, c35, c36, c37, c38, c39, c40, c41, c42, c43, c44, c45, c46, c47, c48, c49, c50, c51, c52, c53, c54, c55, c56, c57, c58, c59, c60, c61, c62, c63, c64, c65, c66, c67, c68, c69, c70, c71, c72, c73, c74, c75, c76, c77, c78, c79, c80, c81, c82, c83, c84, c85, c86, c87, c88, c89, c90, c91, c92, c93, c94, c95, c96, c97, c98, c99, c100, c101, c102, c103, c104, c105, c106, c107, c108, c109, c110, c111, c112, c113, c114, c115], []⟩ W) :
    Code.wp Tryz.prog (secs 2 ahBody) (bodyPost Tryz.prog Tryz.f57 Q) ⟨#[v, .int .i64 i, .int .i64 g, c3, c4, c5, .pointer (some ⟨R, 0, none⟩), c7, .pointer (some ⟨T, 0, none⟩), c9, c10, c11, c12, c13, c14, c15, c16, c17, c18, c19, c20, c21, c22, c23, c24, c25, c26, c27, c28, c29, c30, c31, c32, c33, c34, c35, c36, c37, c38, c39, c40, c41, c42, c43, c44, c45, c46, c47, c48, c49, c50, c51, c52, c53, c54, c55, c56, c57, c58, c59, c60, c61, c62, c63, c64, c65, c66, c67, c68, c69, c70, c71, c72, c73, c74, c75, c76, c77, c78, c79, c80, c81, c82, c83, c84, c85, c86, c87, c88, c89, c90, c91, c92, c93, c94, c95, c96, c97, c98, c99, c100, c101, c102, c103, c104, c105, c106, c107, c108, c109, c110, c111, c112, c113, c114, c115], []⟩ W := by
  have HC := Lib.hid hc
  obtain ⟨d0, d1, d2, d3, d4, d5⟩ := hT
  have hk' : ¬ t.kind = 5 := hk
  clear hc
  refine wp_sec 2 ahBody rfl ?_
  conv => arg 2; whnf
  go_wp2_with fail
  exact HC.out _ _ _ _ _ _ _ _ _ _ _ _ _ _ _ _ _ _ _ _ _ _ _ _ _ _ _ _ _ _ _ _ _ _ _ _ _ _ _ _ _ _ _ _ _ _ _ _ _ _ _ _ _ _ _ _ _ _ _ _ _ _ _ _ _ _ _ _ _ _ _ _ _ _ _ _ _ _ _ _ _ _ _ _ _ _ _ _ _ _ _ _ _ _ _ _ _ _ _ _ _ _ _ _ _ _ _ _ _ _ _

set_option maxRecDepth 100000 in
set_option maxHeartbeats 8000000 in
theorem ah_2t (W : World) (v : Value) (i : Nat) (g : Int) (R T : Nat) (t : K) (hk : t.kind = 5) (hu : ¬ Ie.isUn t.text = true) (hT : KAt W T 0 t) (Q : Ending → World → Prop) (c3 c4 c5 c7 c9 c10 c11 c12 c13 c14 c15 c16 c17 c18 c19 c20 c21 c22 c23 c24 c25 c26 c27 c28 c29 c30 c31 c32 c33 c34 c35 c36 c37 c38 c39 c40 c41 c42 c43 c44 c45 c46 c47 c48 c49 c50 c51 c52 c53 c54 c55 c56 c57 c58 c59 c60 c61 c62 c63 c64 c65 c66 c67 c68 c69 c70 c71 c72 c73 c74 c75 c76 c77 c78 c79 c80 c81 c82 c83 c84 c85 c86 c87 c88 c89 c90 c91 c92 c93 c94 c95 c96 c97 c98 c99 c100 c101 c102 c103 c104 c105 c106 c107 c108 c109 c110 c111 c112 c113 c114 c115 : Value)
    (hc : ∀ (c3 c4 c5 c7 c9 c10 c11 c12 c13 c14 c15 c16 c17 c18 c19 c20 c21 c22 c23 c24 c25 c26 c27 c28 c29 c30 c31 c32 c33 c34 c35 c36 c37 c38 c39 c40 c41 c42 c43 c44 c45 c46 c47 c48 c49 c50 c51 c52 c53 c54 c55 c56 c57 c58 c59 c60 c61 c62 c63 c64 c65 c66 c67 c68 c69 c70 c71 c72 c73 c74 c75 c76 c77 c78 c79 c80 c81 c82 c83 c84 c85 c86 c87 c88 c89 c90 c91 c92 c93 c94 c95 c96 c97 c98 c99 c100 c101 c102 c103 c104 c105 c106 c107 c108 c109 c110 c111 c112 c113 c114 c115 : Value), Code.wp Tryz.prog (secs 3 ahBody) (bodyPost Tryz.prog Tryz.f57 Q) ⟨#[v, .int .i64 i, .int .i64 g, c3, c4, c5, .pointer (some ⟨R, 0, none⟩), c7, .pointer (some ⟨T, 0, none⟩), c9, c10, c11, c12, c13, c14, c15, c16, c17, c18, c19, c20, c21, c22, c23, c24, c25, c26, c27, c28, c29, c30, c31, c32, c33, c34, c35, c36, c37, c38, c39, c40, c41, c42, c43, c44, c45, c46, c47, c48, c49, c50, c51, c52, c53, c54, c55, c56, c57, c58, c59, c60, c61, c62, c63, c64, c65, c66, c67, c68, c69, c70, c71, c72, c73, c74, c75, c76, c77, c78, c79, c80, c81, c82, c83, c84, c85, c86, c87, c88, c89, c90, c91, c92, c93, c94, c95, c96, c97, c98, c99, c100, c101, c102, c103, c104, c105, c106, c107, c108, c109, c110, c111, c112, c113, c114, c115], []⟩ W) :
    Code.wp Tryz.prog (secs 2 ahBody) (bodyPost Tryz.prog Tryz.f57 Q) ⟨#[v, .int .i64 i, .int .i64 g, c3, c4, c5, .pointer (some ⟨R, 0, none⟩), c7, .pointer (some ⟨T, 0, none⟩), c9, c10, c11, c12, c13, c14, c15, c16, c17, c18, c19, c20, c21, c22, c23, c24, c25, c26, c27, c28, c29, c30, c31, c32, c33, c34, c35, c36, c37, c38, c39, c40, c41, c42, c43, c44, c45, c46, c47, c48, c49, c50, c51, c52, c53, c54, c55, c56, c57, c58, c59, c60, c61, c62, c63, c64, c65, c66, c67, c68, c69, c70, c71, c72, c73, c74, c75, c76, c77, c78, c79, c80, c81, c82, c83, c84, c85, c86, c87, c88, c89, c90, c91, c92, c93, c94, c95, c96, c97, c98, c99, c100, c101, c102, c103, c104, c105, c106, c107, c108, c109, c110, c111, c112, c113, c114, c115], []⟩ W := by
  have HC := Lib.hid hc
  obtain ⟨d0, d1, d2, d3, d4, d5⟩ := hT
  have e1 : (t.text.toList == [43]) = false := lit_no (fun e => hu (by rw [e]; decide))
  have e2 : (t.text.toList == [45]) = false := lit_no (fun e => hu (by rw [e]; decide))
  have e3 : (t.text.toList == [33]) = false := lit_no (fun e => hu (by rw [e]; decide))
  have e4 : (t.text.toList == [126]) = false := lit_no (fun e => hu (by rw [e]; decide))
  rw [hk] at d0
  clear hc
  refine wp_sec 2 ahBody rfl ?_
  conv => arg 2; whnf
  go_wp2_with fail
  exact HC.out _ _ _ _ _ _ _ _ _ _ _ _ _ _ _ _ _ _ _ _ _ _ _ _ _ _ _ _ _ _ _ _ _ _ _ _ _ _ _ _ _ _ _ _ _ _ _ _ _ _ _ _ _ _ _ _ _ _ _ _ _ _ _ _ _ _ _ _ _ _ _ _ _ _ _ _ _ _ _ _ _ _ _ _ _ _ _ _ _ _ _ _ _ _ _ _ _ _ _ _ _ _ _ _ _ _ _ _ _ _ _

set_option maxRecDepth 100000 in
set_option maxHeartbeats 8000000 in
theorem ah_par (w W : World) (l : List K) (hT : Tb l) (v : Value) (R T i d : Nat) (g : Int) (t : K) (h : AhW w l v R T t W) (hi : i ≤ 1000000) (hg : g = 61 - ((d + 1 : Nat) : Int)) (hd : d ≤ 60) (ih : RdC d 0) (hk : t.kind = 5) (hu : t.text = Ie.sLp)
    (ht : l[i]? = some t) (c3 c4 c5 c7 c9 c10 c11 c12 c13 c14 c15 c16 c17 c18 c19 c20 c21 c22 c23 c24 c25 c26 c27 c28 c29 c30 c31 c32 c33 c34 c35 c36 c37 c38 c39 c40 c41 c42 c43 c44 c45 c46 c47 c48 c49 c50 c51 c52 c53 c54 c55 c56 c57 c58 c59 c60 c61 c62 c63 c64 c65 c66 c67 c68 c69 c70 c71 c72 c73 c74 c75 c76 c77 c78 c79 c80 c81 c82 c83 c84 c85 c86 c87 c88 c89 c90 c91 c92 c93 c94 c95 c96 c97 c98 c99 c100 c101 c102 c103 c104 c105 c106 c107 c108 c109 c110 c111 c112 c113 c114 c115 : Value) :
    Code.wp Tryz.prog (secs 3 ahBody) (bodyPost Tryz.prog Tryz.f57 (RpPost l (Ie.oper (d + 1) (l.drop i)) w)) ⟨#[v, .int .i64 i, .int .i64 g, c3, c4, c5, .pointer (some ⟨R, 0, none⟩), c7, .pointer (some ⟨T, 0, none⟩), c9, c10, c11, c12, c13, c14, c15, c16, c17, c18, c19, c20, c21, c22, c23, c24, c25, c26, c27, c28, c29, c30, c31, c32, c33, c34, c35, c36, c37, c38, c39, c40, c41, c42, c43, c44, c45, c46, c47, c48, c49, c50, c51, c52, c53, c54, c55, c56, c57, c58, c59, c60, c61, c62, c63, c64, c65, c66, c67, c68, c69, c70, c71, c72, c73, c74, c75, c76, c77, c78, c79, c80, c81, c82, c83, c84, c85, c86, c87, c88, c89, c90, c91, c92, c93, c94, c95, c96, c97, c98, c99, c100, c101, c102, c103, c104, c105, c106, c107, c108, c109, c110, c111, c112, c113, c114, c115], []⟩ W := by
  have hP : Ie.oper (d + 1) (l.drop i) = Ie.shut Ie.sRp (Ie.expr d (l.drop (i + 1))) := by rw [drop_of ht, Ie.oper_lp hk hu]
  rw [hP]
  have hg0 : 0 ≤ g := by omega
  have hg1 : g ≤ 61 := by omega
  have HR0 := ih l v (i + 1) (g + 1) W h.gv h.ks hT (by omega) (by omega)
  have hat : Ie.isAt l i Ie.sLp = true := by
    unfold Ie.isAt
    rw [ht]
    show (decide (t.kind = 5) && decide (t.text = Ie.sLp)) = true
    rw [decide_eq_true hk, decide_eq_true hu]; rfl
  have IS : Hid (Calls Tryz.prog 42 #[v, .int .i64 i, .string ⟨#[40]⟩] W fun e w' => e = .returned (.bool true) ∧ w' = W) := Lib.hid (by rw [← hat]; exact ris9_any v l i Ie.sLp W h.ks hT.1)
  have IS2 : Hid (∀ W j, Ks W v l → Calls Tryz.prog 42 #[v, .int .i64 ((j : Nat) : Int), .string ⟨#[41]⟩] W fun e w' => e = .returned (.bool (Ie.isAt l j Ie.sRp)) ∧ w' = W) := Lib.hid fun W j hv => ris9_any v l j Ie.sRp W hv hT.1
  obtain ⟨q, hq⟩ : ∃ q, q = Ie.expr d (l.drop (i + 1)) := ⟨_, rfl⟩
  have HR : Hid (Calls Tryz.prog 28 #[v, .int .i64 ((i : Int) + 1), .int .i64 0, .int .i64 (g + 1)] W (RpPost l q W)) := Lib.hid (by rw [hq]; exact HR0)
  rw [← hq]
  obtain ⟨S, hS⟩ : ∃ S, S = Ie.shut Ie.sRp q := ⟨_, rfl⟩
  rw [← hS]
  have HS0 := Lib.hid hS
  have HW := Lib.hid h
  have hl1 := hT.1
  clear h ih ht hg hP hu hk hat HR0 hq hT hS
  refine wp_sec 3 ahBody rfl ?_
  conv => arg 2; whnf
  go_wp2_with fail
  refine IS.out.mono ?_
  rintro e w1 ⟨rfl, rfl⟩
  go_wp2_with fail
  refine wp_sec 4 ahBody rfl ?_
  conv => arg 2; whnf
  go_wp2_with fail
  refine HR.out.mono ?_
  rintro e w2 ⟨s1, n1, ad1, m1, a, rfl, hB2, hqq⟩
  have HW2 := Lib.hid (HW.out.below hB2)
  have HB2 := Lib.hid hB2
  obtain ⟨r0, r1, r2⟩ := HW2.out.r.c3
  have f0 := HW2.out.r.fr 0
  have f1 := HW2.out.r.fr 1
  have f2 := HW2.out.r.fr 2
  have lR := lt_of_cell r0
  have hnh : ∀ o, Nh ((set3 w2 R s1 n1 (.slice ad1 m1 m1)).alloc o) R s1 n1 (.slice ad1 m1 m1) := fun o => (set3_nh HW2.out.r s1 n1 (.slice ad1 m1 m1)).below ((Below.refl _ _).alloc (Nat.le_refl _) _)
  have hbe : ∀ o, Below w.heap.size w ((set3 w2 R s1 n1 (.slice ad1 m1 m1)).alloc o) := fun o => by
    have h1 := set3_below HW2.out.bl R s1 n1 (.slice ad1 m1 m1) HW2.out.lo
    exact h1.alloc h1.size _
  have HNH := Lib.hid hnh
  have HBE := Lib.hid hbe
  have KS2 : Hid (∀ o, Ks (w2.alloc o) v l) := Lib.hid fun o => HW2.out.ks.below ((Below.refl _ _).alloc (Nat.le_refl _) _)
  clear hB2 hnh hbe
  cases q with
  | none =>
    obtain rfl : a = -1 := hqq
    go_wp2_with fail
    refine bodyPost_ret (ret_ah (HNH.out _).c3 rfl rfl) rfl ?_
    rw [HS0.out]
    exact no_end (HBE.out _)
  | some q =>
    obtain ⟨x, r⟩ := q
    obtain ⟨j, rfl, hj, rfl, hN⟩ := hqq
    have HN := Lib.hid hN
    clear hN
    have IJ := Lib.hid (fun o => IS2.out (w2.alloc o) j (KS2.out o))
    obtain ⟨bb, hbb⟩ : ∃ bb, bb = Ie.isAt l j Ie.sRp := ⟨_, rfl⟩
    rw [← hbb] at IJ
    cases bb with
    | true =>
      have hs : Ie.shut Ie.sRp (some (x, l.drop j)) = some (x, l.drop (j + 1)) ∧ j + 1 ≤ l.length := by
        unfold Ie.isAt at hbb
        cases hlj : l[j]? with
        | none => rw [hlj] at hbb; cases hbb
        | some u =>
          rw [hlj] at hbb
          rw [drop_of hlj]
          have := (List.getElem?_eq_some_iff.1 hlj).1
          exact ⟨by show (if Ie.isS u Ie.sRp then _ else _) = _; rw [if_pos hbb.symm], by omega⟩
      have HS1 := Lib.hid hs.1
      have HS := Lib.hid hs.2
      clear hs hbb
      go_wp2_with fail
      refine (IJ.out _).mono ?_
      rintro e w3 ⟨rfl, rfl⟩
      go_wp2_with fail
      refine bodyPost_ret (ret_ah (HNH.out _).c3 rfl rfl) rfl ?_
      rw [HS0.out, HS1.out]
      refine ⟨s1, n1, ad1, m1, (j : Int) + 1, rfl, HBE.out _, j + 1, by omega, HS.out, rfl, ?_⟩
      have hR1 := HW.out.r.lt
      have hsz := HW.out.bl.size
      refine Nd.alloc ?_ _
      exact (HN.out.set3 (R := R) (fun b hb _ => by have : w1.heap.size ≤ b := hb; omega) s1 n1 (.slice ad1 m1 m1)).mono fun b hb _ => by have : w1.heap.size ≤ b := hb; omega
    | false =>
      have hs : Ie.shut Ie.sRp (some (x, l.drop j)) = none := by
        unfold Ie.isAt at hbb
        cases hlj : l[j]? with
        | none =>
          rw [List.drop_eq_nil_of_le (by rw [List.getElem?_eq_none_iff] at hlj; exact hlj)]
          rfl
        | some u =>
          rw [hlj] at hbb
          rw [drop_of hlj]
          have hbb' : Ie.isS u Ie.sRp = false := hbb.symm
          show (if Ie.isS u Ie.sRp then _ else _) = _
          rw [if_neg (by rw [hbb']; simp)]
      have HS1 := Lib.hid hs
      clear hs hbb
      go_wp2_with fail
      refine (IJ.out _).mono ?_
      rintro e w3 ⟨rfl, rfl⟩
      go_wp2_with fail
      refine bodyPost_ret (ret_ah (HNH.out _).c3 rfl rfl) rfl ?_
      rw [HS0.out, HS1.out]
      exact no_end (HBE.out _)
set_option maxRecDepth 100000 in
set_option maxHeartbeats 8000000 in
theorem ah_3 (w W : World) (l : List K) (hT : Tb l) (v : Value) (R T i : Nat) (g : Int) (t : K) (h : AhW w l v R T t W) (ht : l[i]? = some t) (hn : t.kind ≠ 5 ∨ t.text ≠ Ie.sLp) (Q : Ending → World → Prop)
    (hc : ∀ (c0 c2 c3 c4 c5 c7 c9 c10 c11 c12 c13 c14 c15 c16 c17 c18 c19 c20 c21 c22 c23 c24 c25 c26 c27 c28 c29 c30 c31 c32 c33 c34 c35 c36 c37 c38 c39 c40 c41 c42 c43 c44 c45 c46 c47 c48 c49 c50 c51 c52 c53 c54 c55 c56 c57 c58 c59 c60 c61 c62 c63 c64 c65 c66 c67 c68 c69 c70 c71 c72 c73 c74 c75 c76 c77 c78 c79 c80 c81 c82 c83 c84 c85 c86 c87 c88 c89 c90 c91 c92 c93 c94 c95 c96 c97 c98 c99 c100 c101 c102 c103 c104 c105 c106 c107 c108 c109 c110 c111 c112 c113 c114 c115 : Value), Code.wp Tryz.prog (secs 5 ahBody) (bodyPost Tryz.prog Tryz.f57 Q) ⟨#[c0, .int .i64 i, c2, c3, c4, c5, .pointer (some ⟨R, 0, none⟩), c7, .pointer (some ⟨T, 0, none⟩), c9, c10, c11, c12, c13, c14, c15, c16, c17, c18, c19, c20, c21, c22, c23, c24, c25, c26, c27, c28, c29, c30, c31, c32, c33, c34, c35, c36, c37, c38, c39, c40, c41, c42, c43, c44, c45, c46, c47, c48, c49, c50, c51, c52, c53, c54, c55, c56, c57, c58, c59, c60, c61, c62, c63, c64, c65, c66, c67, c68, c69, c70, c71, c72, c73, c74, c75, c76, c77, c78, c79, c80, c81, c82, c83, c84, c85, c86, c87, c88, c89, c90, c91, c92, c93, c94, c95, c96, c97, c98, c99, c100, c101, c102, c103, c104, c105, c106, c107, c108, c109, c110, c111, c112, c113, c114, c115], []⟩ W) (c3 c4 c5 c7 c9 c10 c11 c12 c13 c14 c15 c16 c17 c18 c19 c20 c21 c22 c23 c24 c25 c26 c27 c28 c29 c30 c31 c32 c33 c34 c35 c36 c37 c38 c39 c40 c41 c42 c43 c44 c45 c46 c47 c48 c49 c50 c51 c52 c53 c54 c55 c56 c57 c58 c59 c60 c61 c62 c63 c64 c65 c66 c67 c68 c69 c70 c71 c72 c73 c74 c75 c76 c77 c78 c79 c80 c81 c82 c83 c84 c85 c86 c87 c88 c89 c90 c91 c92 c93 c94 c95 c96 c97 c98 c99 c100 c101 c102 c103 c104 c105 c106 c107 c108 c109 c110 c111 c112 c113 c114 c115 : Value) :
    Code.wp Tryz.prog (secs 3 ahBody) (bodyPost Tryz.prog Tryz.f57 Q) ⟨#[v, .int .i64 i, .int .i64 g, c3, c4, c5, .pointer (some ⟨R, 0, none⟩), c7, .pointer (some ⟨T, 0, none⟩), c9, c10, c11, c12, c13, c14, c15, c16, c17, c18, c19, c20, c21, c22, c23, c24, c25, c26, c27, c28, c29, c30, c31, c32, c33, c34, c35, c36, c37, c38, c39, c40, c41, c42, c43, c44, c45, c46, c47, c48, c49, c50, c51, c52, c53, c54, c55, c56, c57, c58, c59, c60, c61, c62, c63, c64, c65, c66, c67, c68, c69, c70, c71, c72, c73, c74, c75, c76, c77, c78, c79, c80, c81, c82, c83, c84, c85, c86, c87, c88, c89, c90, c91, c92, c93, c94, c95, c96, c97, c98, c99, c100, c101, c102, c103, c104, c105, c106, c107, c108, c109, c110, c111, c112, c113, c114, c115], []⟩ W := by
  have hat : Ie.isAt l i Ie.sLp = false := by
    unfold Ie.isAt
    rw [ht]
    show (decide (t.kind = 5) && decide (t.text = Ie.sLp)) = false
    rcases hn with h | h
    · rw [decide_eq_false h]; rfl
    · rw [decide_eq_false h, Bool.and_false]
  have IS : Hid (Calls Tryz.prog 42 #[v, .int .i64 i, .string ⟨#[40]⟩] W fun e w' => e = .returned (.bool false) ∧ w' = W) := Lib.hid (by rw [← hat]; exact ris9_any v l i Ie.sLp W h.ks hT.1)
  have HC := Lib.hid hc
  clear hc h hT ht hn hat
  refine wp_sec 3 ahBody rfl ?_
  conv => arg 2; whnf
  go_wp2_with fail
  refine IS.out.mono ?_
  rintro e w1 ⟨rfl, rfl⟩
  go_wp2_with fail
  refine wp_sec 4 ahBody rfl ?_
  conv => arg 2; whnf
  go_wp2_with fail
  exact HC.out _ _ _ _ _ _ _ _ _ _ _ _ _ _ _ _ _ _ _ _ _ _ _ _ _ _ _ _ _ _ _ _ _ _ _ _ _ _ _ _ _ _ _ _ _ _ _ _ _ _ _ _ _ _ _ _ _ _ _ _ _ _ _ _ _ _ _ _ _ _ _ _ _ _ _ _ _ _ _ _ _ _ _ _ _ _ _ _ _ _ _ _ _ _ _ _ _ _ _ _ _ _ _ _ _ _ _ _ _ _ _ _ _

set_option maxRecDepth 100000 in
set_option maxHeartbeats 8000000 in
theorem ah_8 (w W : World) (l : List K) (R i : Nat) (hB : Below w.heap.size w W) (hlo : w.heap.size ≤ R) (q : Option Nat) (hq : ∀ n, q = some n → n ≤ Ie.most) {s' : ByteArray} {n' : Int} {k' : Value} (hr : Nh W R s' n' k') (hi : i + 1 ≤ l.length) (hi2 : i ≤ 1000000) (a e : Int) (ha : a = Ie.nv q) (he : e = Ie.ne q) (c0 c2 c3 c4 c5 c7 c8 c9 c10 c11 c12 c13 c14 c17 c18 c19 c20 c21 c22 c23 c24 c25 c26 c27 c28 c29 c30 c31 c32 c33 c34 c35 c36 c37 c38 c39 c40 c41 c42 c43 c44 c45 c46 c47 c48 c49 c50 c51 c52 c53 c54 c55 c56 c57 c58 c59 c60 c61 c62 c63 c64 c65 c66 c67 c68 c69 c70 c71 c72 c73 c74 c75 c76 c77 c78 c79 c80 c81 c82 c83 c84 c85 c86 c87 c88 c89 c90 c91 c92 c93 c94 c95 c96 c97 c98 c99 c100 c101 c102 c103 c104 c105 c106 c107 c108 c109 c110 c111 c112 c113 c114 c115 : Value) :
    Code.wp Tryz.prog (secs 8 ahBody) (bodyPost Tryz.prog Tryz.f57 (RpPost l (some (Ie.ofNum q, l.drop (i + 1))) w)) ⟨#[c0, .int .i64 i, c2, c3, c4, c5, .pointer (some ⟨R, 0, none⟩), c7, c8, c9, c10, c11, c12, c13, c14, .int .i64 a, .int .i64 e, c17, c18, c19, c20, c21, c22, c23, c24, c25, c26, c27, c28, c29, c30, c31, c32, c33, c34, c35, c36, c37, c38, c39, c40, c41, c42, c43, c44, c45, c46, c47, c48, c49, c50, c51, c52, c53, c54, c55, c56, c57, c58, c59, c60, c61, c62, c63, c64, c65, c66, c67, c68, c69, c70, c71, c72, c73, c74, c75, c76, c77, c78, c79, c80, c81, c82, c83, c84, c85, c86, c87, c88, c89, c90, c91, c92, c93, c94, c95, c96, c97, c98, c99, c100, c101, c102, c103, c104, c105, c106, c107, c108, c109, c110, c111, c112, c113, c114, c115], []⟩ W := by
  obtain ⟨r0, r1, r2⟩ := hr.c3
  have f0 := hr.fr 0
  have f1 := hr.fr 1
  have f2 := hr.fr 2
  have lR := lt_of_cell r0
  have HN : Hid (∀ s n k, Nh (set3 W R s n k) R s n k) := Lib.hid fun s n k => set3_nh hr s n k
  have HB := Lib.hid hB
  clear hr hB
  cases q with
  | none =>
    have HE : Hid (RpPost l (some (Ie.ofNum none, l.drop (i + 1))) w (.returned (.tuple #[.agg #[.string Ie.sBad, .int .i64 0, .slice none 0 0], .int .i64 ((i : Int) + 1)])) (set3 W R Ie.sBad 0 (.slice none 0 0))) := Lib.hid (leaf_end HB.out hlo hi fun _ => ⟨rfl, rfl, rfl⟩)
    obtain ⟨P, hP⟩ : ∃ P, P = RpPost l (some (Ie.ofNum none, l.drop (i + 1))) w := ⟨_, rfl⟩
    rw [← hP] at HE ⊢
    have he' : e = 91 := he
    subst he'
    clear hP hq ha he
    refine wp_sec 8 ahBody rfl ?_
    conv => arg 2; whnf
    go_wp2_with fail
    exact bodyPost_ret (ret_ah (HN.out Ie.sBad 0 (.slice none 0 0)).c3 rfl rfl) rfl HE.out
  | some n =>
    have hn := hq n rfl
    have HE : Hid (RpPost l (some (Ie.ofNum (some n), l.drop (i + 1))) w (.returned (.tuple #[.agg #[.string ⟨#[]⟩, .int .i64 n, .slice none 0 0], .int .i64 ((i : Int) + 1)])) (set3 W R ⟨#[]⟩ n (.slice none 0 0))) := Lib.hid (leaf_end HB.out hlo hi fun _ => ⟨rfl, rfl, rfl, by unfold Ie.InR; unfold Ie.most at hn; omega⟩)
    obtain ⟨P, hP⟩ : ∃ P, P = RpPost l (some (Ie.ofNum (some n), l.drop (i + 1))) w := ⟨_, rfl⟩
    rw [← hP] at HE ⊢
    have he' : e = 0 := he
    have ha' : a = n := ha
    subst he' ha'
    clear hP hq ha he hn
    refine wp_sec 8 ahBody rfl ?_
    conv => arg 2; whnf
    go_wp2_with fail
    refine wp_sec 9 ahBody rfl ?_
    conv => arg 2; whnf
    go_wp2_with fail
    conv => arg 2; whnf
    go_wp2_with fail
    exact bodyPost_ret (ret_ah (HN.out ⟨#[]⟩ n (.slice none 0 0)).c3 rfl rfl) rfl HE.out

set_option maxRecDepth 100000 in
set_option maxHeartbeats 8000000 in
theorem ah_num (w W : World) (l : List K) (hT : Tb l) (v : Value) (R T i d : Nat) (t : K) (h : AhW w l v R T t W) (hi : i ≤ 1000000) (hk : t.kind = 2) (ht : l[i]? = some t) (c0 c2 c3 c4 c5 c7 c9 c10 c11 c12 c13 c14 c15 c16 c17 c18 c19 c20 c21 c22 c23 c24 c25 c26 c27 c28 c29 c30 c31 c32 c33 c34 c35 c36 c37 c38 c39 c40 c41 c42 c43 c44 c45 c46 c47 c48 c49 c50 c51 c52 c53 c54 c55 c56 c57 c58 c59 c60 c61 c62 c63 c64 c65 c66 c67 c68 c69 c70 c71 c72 c73 c74 c75 c76 c77 c78 c79 c80 c81 c82 c83 c84 c85 c86 c87 c88 c89 c90 c91 c92 c93 c94 c95 c96 c97 c98 c99 c100 c101 c102 c103 c104 c105 c106 c107 c108 c109 c110 c111 c112 c113 c114 c115 : Value) :
    Code.wp Tryz.prog (secs 5 ahBody) (bodyPost Tryz.prog Tryz.f57 (RpPost l (Ie.oper (d + 1) (l.drop i)) w)) ⟨#[c0, .int .i64 i, c2, c3, c4, c5, .pointer (some ⟨R, 0, none⟩), c7, .pointer (some ⟨T, 0, none⟩), c9, c10, c11, c12, c13, c14, c15, c16, c17, c18, c19, c20, c21, c22, c23, c24, c25, c26, c27, c28, c29, c30, c31, c32, c33, c34, c35, c36, c37, c38, c39, c40, c41, c42, c43, c44, c45, c46, c47, c48, c49, c50, c51, c52, c53, c54, c55, c56, c57, c58, c59, c60, c61, c62, c63, c64, c65, c66, c67, c68, c69, c70, c71, c72, c73, c74, c75, c76, c77, c78, c79, c80, c81, c82, c83, c84, c85, c86, c87, c88, c89, c90, c91, c92, c93, c94, c95, c96, c97, c98, c99, c100, c101, c102, c103, c104, c105, c106, c107, c108, c109, c110, c111, c112, c113, c114, c115], []⟩ W := by
  have hP : Ie.oper (d + 1) (l.drop i) = some (Ie.ofNum (Ie.number t.text.data.toList), l.drop (i + 1)) := by rw [drop_of ht, Ie.oper_num hk]
  rw [hP]
  have NC : Hid (Calls Tryz.prog 14 #[.string t.text] W fun e w' => e = .returned (.tuple #[.int .i64 (Ie.nv (Ie.number t.text.data.toList)), .int .i64 (Ie.ne (Ie.number t.text.data.toList))]) ∧ Below W.heap.size W w') := Lib.hid (rnum9_any t.text W h.gv (hT.2 t (List.mem_of_getElem? ht)))
  have hin : ∀ n, Ie.number t.text.data.toList = some n → n ≤ Ie.most := fun n h => Ie.number_in h
  have HL := Lib.hid (show i + 1 ≤ l.length by have := (List.getElem?_eq_some_iff.1 ht).1; omega)
  obtain ⟨q, hq⟩ : ∃ q, q = Ie.number t.text.data.toList := ⟨_, rfl⟩
  rw [← hq] at NC hin ⊢
  obtain ⟨a, ha⟩ : ∃ a, a = Ie.nv q := ⟨_, rfl⟩
  obtain ⟨e, he⟩ : ∃ a, a = Ie.ne q := ⟨_, rfl⟩
  rw [← ha, ← he] at NC
  have HA := Lib.hid ha
  have HE := Lib.hid he
  have HW := Lib.hid h
  have HI := Lib.hid hin
  obtain ⟨d0, d1, d2, d3, d4, d5⟩ := h.t
  rw [hk] at d0
  clear h hP ht hk hq ha he hT hin
  refine wp_sec 5 ahBody rfl ?_
  conv => arg 2; whnf
  go_wp2_with fail
  refine wp_sec 6 ahBody rfl ?_
  conv => arg 2; whnf
  go_wp2_with fail
  refine wp_sec 7 ahBody rfl ?_
  conv => arg 2; whnf
  go_wp2_with fail
  refine NC.out.mono ?_
  rintro ee w2 ⟨rfl, hB2⟩
  have HB2 := Lib.hid hB2
  clear hB2
  go_wp2_with fail
  exact ah_8 w w2 l R i (Below.then HW.out.bl HB2.out) HW.out.lo q HI.out (HW.out.r.below HB2.out) HL.out hi a e HA.out HE.out _ _ _ _ _ _ _ _ _ _ _ _ _ _ _ _ _ _ _ _ _ _ _ _ _ _ _ _ _ _ _ _ _ _ _ _ _ _ _ _ _ _ _ _ _ _ _ _ _ _ _ _ _ _ _ _ _ _ _ _ _ _ _ _ _ _ _ _ _ _ _ _ _ _ _ _ _ _ _ _ _ _ _ _ _ _ _ _ _ _ _ _ _ _ _ _ _ _ _ _ _ _ _ _ _ _ _ _ _ _ _ _

set_option maxRecDepth 100000 in
set_option maxHeartbeats 8000000 in
theorem ah_quo (w W : World) (l : List K) (hT : Tb l) (v : Value) (R T i d : Nat) (t : K) (h : AhW w l v R T t W) (hi : i ≤ 1000000) (hk : t.kind = 3) (ht : l[i]? = some t) (c0 c2 c3 c4 c5 c7 c9 c10 c11 c12 c13 c14 c15 c16 c17 c18 c19 c20 c21 c22 c23 c24 c25 c26 c27 c28 c29 c30 c31 c32 c33 c34 c35 c36 c37 c38 c39 c40 c41 c42 c43 c44 c45 c46 c47 c48 c49 c50 c51 c52 c53 c54 c55 c56 c57 c58 c59 c60 c61 c62 c63 c64 c65 c66 c67 c68 c69 c70 c71 c72 c73 c74 c75 c76 c77 c78 c79 c80 c81 c82 c83 c84 c85 c86 c87 c88 c89 c90 c91 c92 c93 c94 c95 c96 c97 c98 c99 c100 c101 c102 c103 c104 c105 c106 c107 c108 c109 c110 c111 c112 c113 c114 c115 : Value) :
    Code.wp Tryz.prog (secs 5 ahBody) (bodyPost Tryz.prog Tryz.f57 (RpPost l (Ie.oper (d + 1) (l.drop i)) w)) ⟨#[c0, .int .i64 i, c2, c3, c4, c5, .pointer (some ⟨R, 0, none⟩), c7, .pointer (some ⟨T, 0, none⟩), c9, c10, c11, c12, c13, c14, c15, c16, c17, c18, c19, c20, c21, c22, c23, c24, c25, c26, c27, c28, c29, c30, c31, c32, c33, c34, c35, c36, c37, c38, c39, c40, c41, c42, c43, c44, c45, c46, c47, c48, c49, c50, c51, c52, c53, c54, c55, c56, c57, c58, c59, c60, c61, c62, c63, c64, c65, c66, c67, c68, c69, c70, c71, c72, c73, c74, c75, c76, c77, c78, c79, c80, c81, c82, c83, c84, c85, c86, c87, c88, c89, c90, c91, c92, c93, c94, c95, c96, c97, c98, c99, c100, c101, c102, c103, c104, c105, c106, c107, c108, c109, c110, c111, c112, c113, c114, c115], []⟩ W := by
  have hP : Ie.oper (d + 1) (l.drop i) = some (Ie.ofNum (Ie.quote t.text.data.toList), l.drop (i + 1)) := by rw [drop_of ht, Ie.oper_quo hk]
  rw [hP]
  have NC : Hid (Calls Tryz.prog 16 #[.string t.text] W fun e w' => e = .returned (.tuple #[.int .i64 (Ie.nv (Ie.quote t.text.data.toList)), .int .i64 (Ie.ne (Ie.quote t.text.data.toList))]) ∧ Below W.heap.size W w') := Lib.hid (rquote_any t.text W h.gv (hT.2 t (List.mem_of_getElem? ht)))
  have hin : ∀ n, Ie.quote t.text.data.toList = some n → n ≤ Ie.most := fun n h => Nat.le_trans (Ie.quote_in h) (by decide)
  have HL := Lib.hid (show i + 1 ≤ l.length by have := (List.getElem?_eq_some_iff.1 ht).1; omega)
  obtain ⟨q, hq⟩ : ∃ q, q = Ie.quote t.text.data.toList := ⟨_, rfl⟩
  rw [← hq] at NC hin ⊢
  obtain ⟨a, ha⟩ : ∃ a, a = Ie.nv q := ⟨_, rfl⟩
  obtain ⟨e, he⟩ : ∃ a, a = Ie.ne q := ⟨_, rfl⟩
  rw [← ha, ← he] at NC
  have HA := Lib.hid ha
  have HE := Lib.hid he
  have HW := Lib.hid h
  have HI := Lib.hid hin
  obtain ⟨d0, d1, d2, d3, d4, d5⟩ := h.t
  rw [hk] at d0
  clear h hP ht hk hq ha he hT hin
  refine wp_sec 5 ahBody rfl ?_
  conv => arg 2; whnf
  go_wp2_with fail
  refine wp_sec 6 ahBody rfl ?_
  conv => arg 2; whnf
  go_wp2_with fail
  refine wp_sec 7 ahBody rfl ?_
  conv => arg 2; whnf
  go_wp2_with fail
  refine NC.out.mono ?_
  rintro ee w2 ⟨rfl, hB2⟩
  have HB2 := Lib.hid hB2
  clear hB2
  go_wp2_with fail
  exact ah_8 w w2 l R i (Below.then HW.out.bl HB2.out) HW.out.lo q HI.out (HW.out.r.below HB2.out) HL.out hi a e HA.out HE.out _ _ _ _ _ _ _ _ _ _ _ _ _ _ _ _ _ _ _ _ _ _ _ _ _ _ _ _ _ _ _ _ _ _ _ _ _ _ _ _ _ _ _ _ _ _ _ _ _ _ _ _ _ _ _ _ _ _ _ _ _ _ _ _ _ _ _ _ _ _ _ _ _ _ _ _ _ _ _ _ _ _ _ _ _ _ _ _ _ _ _ _ _ _ _ _ _ _ _ _ _ _ _ _ _ _ _ _ _ _ _ _

set_option maxRecDepth 100000 in
set_option maxHeartbeats 8000000 in
theorem ah_name (w W : World) (l : List K) (v : Value) (R T i d : Nat) (t : K) (h : AhW w l v R T t W) (hi : i ≤ 1000000) (hk : t.kind = 1) (ht : l[i]? = some t) (c0 c2 c3 c4 c5 c7 c9 c10 c11 c12 c13 c14 c15 c16 c17 c18 c19 c20 c21 c22 c23 c24 c25 c26 c27 c28 c29 c30 c31 c32 c33 c34 c35 c36 c37 c38 c39 c40 c41 c42 c43 c44 c45 c46 c47 c48 c49 c50 c51 c52 c53 c54 c55 c56 c57 c58 c59 c60 c61 c62 c63 c64 c65 c66 c67 c68 c69 c70 c71 c72 c73 c74 c75 c76 c77 c78 c79 c80 c81 c82 c83 c84 c85 c86 c87 c88 c89 c90 c91 c92 c93 c94 c95 c96 c97 c98 c99 c100 c101 c102 c103 c104 c105 c106 c107 c108 c109 c110 c111 c112 c113 c114 c115 : Value) :
    Code.wp Tryz.prog (secs 5 ahBody) (bodyPost Tryz.prog Tryz.f57 (RpPost l (Ie.oper (d + 1) (l.drop i)) w)) ⟨#[c0, .int .i64 i, c2, c3, c4, c5, .pointer (some ⟨R, 0, none⟩), c7, .pointer (some ⟨T, 0, none⟩), c9, c10, c11, c12, c13, c14, c15, c16, c17, c18, c19, c20, c21, c22, c23, c24, c25, c26, c27, c28, c29, c30, c31, c32, c33, c34, c35, c36, c37, c38, c39, c40, c41, c42, c43, c44, c45, c46, c47, c48, c49, c50, c51, c52, c53, c54, c55, c56, c57, c58, c59, c60, c61, c62, c63, c64, c65, c66, c67, c68, c69, c70, c71, c72, c73, c74, c75, c76, c77, c78, c79, c80, c81, c82, c83, c84, c85, c86, c87, c88, c89, c90, c91, c92, c93, c94, c95, c96, c97, c98, c99, c100, c101, c102, c103, c104, c105, c106, c107, c108, c109, c110, c111, c112, c113, c114, c115], []⟩ W := by
  have hP : Ie.oper (d + 1) (l.drop i) = some (Ie.ofNum (some 0), l.drop (i + 1)) := by rw [drop_of ht, Ie.oper_name hk]; rfl
  rw [hP]
  have HL := Lib.hid (show i + 1 ≤ l.length by have := (List.getElem?_eq_some_iff.1 ht).1; omega)
  have HW := Lib.hid h
  obtain ⟨d0, d1, d2, d3, d4, d5⟩ := h.t
  rw [hk] at d0
  clear h hP ht hk
  refine wp_sec 5 ahBody rfl ?_
  conv => arg 2; whnf
  go_wp2_with fail
  refine wp_sec 6 ahBody rfl ?_
  conv => arg 2; whnf
  go_wp2_with fail
  refine wp_sec 7 ahBody rfl ?_
  conv => arg 2; whnf
  go_wp2_with fail
  exact ah_8 w W l R i HW.out.bl HW.out.lo (some 0) (fun n h => by cases h; decide) HW.out.r HL.out hi 0 0 rfl rfl _ _ _ _ _ _ _ _ _ _ _ _ _ _ _ _ _ _ _ _ _ _ _ _ _ _ _ _ _ _ _ _ _ _ _ _ _ _ _ _ _ _ _ _ _ _ _ _ _ _ _ _ _ _ _ _ _ _ _ _ _ _ _ _ _ _ _ _ _ _ _ _ _ _ _ _ _ _ _ _ _ _ _ _ _ _ _ _ _ _ _ _ _ _ _ _ _ _ _ _ _ _ _ _ _ _ _ _ _ _ _ _

set_option maxRecDepth 100000 in
set_option maxHeartbeats 8000000 in
theorem ah_none (w W : World) (l : List K) (v : Value) (R T i : Nat) (t : K) (h : AhW w l v R T t W) (_ : i ≤ 1000000) (h1 : t.kind ≠ 1) (h2 : t.kind ≠ 2) (h3 : t.kind ≠ 3) (c0 c2 c3 c4 c5 c7 c9 c10 c11 c12 c13 c14 c15 c16 c17 c18 c19 c20 c21 c22 c23 c24 c25 c26 c27 c28 c29 c30 c31 c32 c33 c34 c35 c36 c37 c38 c39 c40 c41 c42 c43 c44 c45 c46 c47 c48 c49 c50 c51 c52 c53 c54 c55 c56 c57 c58 c59 c60 c61 c62 c63 c64 c65 c66 c67 c68 c69 c70 c71 c72 c73 c74 c75 c76 c77 c78 c79 c80 c81 c82 c83 c84 c85 c86 c87 c88 c89 c90 c91 c92 c93 c94 c95 c96 c97 c98 c99 c100 c101 c102 c103 c104 c105 c106 c107 c108 c109 c110 c111 c112 c113 c114 c115 : Value) :
    Code.wp Tryz.prog (secs 5 ahBody) (bodyPost Tryz.prog Tryz.f57 (RpPost l none w)) ⟨#[c0, .int .i64 i, c2, c3, c4, c5, .pointer (some ⟨R, 0, none⟩), c7, .pointer (some ⟨T, 0, none⟩), c9, c10, c11, c12, c13, c14, c15, c16, c17, c18, c19, c20, c21, c22, c23, c24, c25, c26, c27, c28, c29, c30, c31, c32, c33, c34, c35, c36, c37, c38, c39, c40, c41, c42, c43, c44, c45, c46, c47, c48, c49, c50, c51, c52, c53, c54, c55, c56, c57, c58, c59, c60, c61, c62, c63, c64, c65, c66, c67, c68, c69, c70, c71, c72, c73, c74, c75, c76, c77, c78, c79, c80, c81, c82, c83, c84, c85, c86, c87, c88, c89, c90, c91, c92, c93, c94, c95, c96, c97, c98, c99, c100, c101, c102, c103, c104, c105, c106, c107, c108, c109, c110, c111, c112, c113, c114, c115], []⟩ W := by
  have HW := Lib.hid h
  obtain ⟨d0, d1, d2, d3, d4, d5⟩ := h.t
  have hr := h.r
  have HN : Hid (∀ s n k, Nh (set3 W R s n k) R s n k) := Lib.hid fun s n k => set3_nh hr s n k
  obtain ⟨r0, r1, r2⟩ := h.r.c3
  have f0 := hr.fr 0
  have f1 := hr.fr 1
  have f2 := hr.fr 2
  have lR := lt_of_cell r0
  obtain ⟨P, hP⟩ : ∃ P, P = RpPost l none w := ⟨_, rfl⟩
  have HE : Hid (P (.returned (.tuple #[.agg #[.string ⟨#[]⟩, .int .i64 0, .slice none 0 0], .int .i64 (-1)])) (set3 W R ⟨#[]⟩ 0 (.slice none 0 0))) := Lib.hid (by rw [hP]; exact no_end (set3_below h.bl R _ _ _ h.lo))
  rw [← hP]
  clear h hP hr
  refine wp_sec 5 ahBody rfl ?_
  conv => arg 2; whnf
  go_wp2_with fail
  refine wp_sec 6 ahBody rfl ?_
  conv => arg 2; whnf
  go_wp2_with fail
  refine wp_sec 7 ahBody rfl ?_
  conv => arg 2; whnf
  go_wp2_with fail
  exact bodyPost_ret (ret_ah (HN.out ⟨#[]⟩ 0 (.slice none 0 0)).c3 rfl rfl) rfl HE.out

end Go.Proofs.YtognifnalfjdgaaGreatDoor

/- What is proved: what stands ahead, by the document (ahead), whole. -/
namespace Go.Proofs.YtognifnalfjdgaaGreatDoor
open Go.RowKit Go.Shelf

def AhC (d : Nat) : Prop := ∀ (l : List K) (v : Value) (i : Nat) (g : Int) (t : K) (W : World), Gv W → Ks W v l → Tb l → l[i]? = some t → i ≤ 1000000 → g = 61 - ((d + 1 : Nat) : Int) → Calls Tryz.prog 57 #[v, .int .i64 i, .int .i64 g] W (RpPost l (Ie.oper (d + 1) (l.drop i)) W)

theorem kat_new (w : World) (t : K) : KAt (w.alloc (.cells #[.int .i64 t.kind, .string t.text, .int .i64 t.file, .int .i64 t.fr, .int .i64 t.en, .bool t.bl] 54)) w.heap.size 0 t :=
  ⟨World.cell?_alloc_mark .., World.cell?_alloc_mark .., World.cell?_alloc_mark .., World.cell?_alloc_mark .., World.cell?_alloc_mark .., World.cell?_alloc_mark ..⟩

set_option maxRecDepth 100000 in
set_option maxHeartbeats 4000000 in
/-- From the token on. -/
theorem ah_2 (d : Nat) (hd : d ≤ 60) (i11 : RdC d 11) (i0 : RdC d 0) (w W : World) (l : List K) (hT : Tb l) (v : Value) (R T i : Nat) (g : Int) (t : K) (h : AhW w l v R T t W) (hi : i ≤ 1000000) (hg : g = 61 - ((d + 1 : Nat) : Int)) (ht : l[i]? = some t) (c3 c4 c5 c7 c9 c10 c11 c12 c13 c14 c15 c16 c17 c18 c19 c20 c21 c22 c23 c24 c25 c26 c27 c28 c29 c30 c31 c32 c33 c34 c35 c36 c37 c38 c39 c40 c41 c42 c43 c44 c45 c46 c47 c48 c49 c50 c51 c52 c53 c54 c55 c56 c57 c58 c59 c60 c61 c62 c63 c64 c65 c66 c67 c68 c69 c70 c71 c72 c73 c74 c75 c76 c77 c78 c79 c80 c81 c82 c83 c84 c85 c86 c87 c88 c89 c90 c91 c92 c93 c94 c95 c96 c97 c98 c99 c100 c101 c102 c103 c104 c105 c106 c107 c108 c109 c110 c111 c112 c113 c114 c115 : Value) :
    Code.wp Tryz.prog (secs 2 ahBody) (bodyPost Tryz.prog Tryz.f57 (RpPost l (Ie.oper (d + 1) (l.drop i)) w)) ⟨#[v, .int .i64 i, .int .i64 g, c3, c4, c5, .pointer (some ⟨R, 0, none⟩), c7, .pointer (some ⟨T, 0, none⟩), c9, c10, c11, c12, c13, c14, c15, c16, c17, c18, c19, c20, c21, c22, c23, c24, c25, c26, c27, c28, c29, c30, c31, c32, c33, c34, c35, c36, c37, c38, c39, c40, c41, c42, c43, c44, c45, c46, c47, c48, c49, c50, c51, c52, c53, c54, c55, c56, c57, c58, c59, c60, c61, c62, c63, c64, c65, c66, c67, c68, c69, c70, c71, c72, c73, c74, c75, c76, c77, c78, c79, c80, c81, c82, c83, c84, c85, c86, c87, c88, c89, c90, c91, c92, c93, c94, c95, c96, c97, c98, c99, c100, c101, c102, c103, c104, c105, c106, c107, c108, c109, c110, c111, c112, c113, c114, c115], []⟩ W := by
  by_cases hk : t.kind = 5
  · by_cases hu : Ie.isUn t.text = true
    · have hs : t.text = Ie.sAdd ∨ t.text = Ie.sSub ∨ t.text = Ie.sNot ∨ t.text = Ie.sTil := by
        unfold Ie.isUn at hu
        simp only [Bool.or_eq_true, decide_eq_true_iff] at hu
        rcases hu with ((h | h) | h) | h
        · exact .inl h
        · exact .inr (.inl h)
        · exact .inr (.inr (.inl h))
        · exact .inr (.inr (.inr h))
      rcases hs with hs | hs | hs | hs
      · exact ah_una w W l hT v R T i d g t h hi hg hd i11 hk hs ht _ _ _ _ _ _ _ _ _ _ _ _ _ _ _ _ _ _ _ _ _ _ _ _ _ _ _ _ _ _ _ _ _ _ _ _ _ _ _ _ _ _ _ _ _ _ _ _ _ _ _ _ _ _ _ _ _ _ _ _ _ _ _ _ _ _ _ _ _ _ _ _ _ _ _ _ _ _ _ _ _ _ _ _ _ _ _ _ _ _ _ _ _ _ _ _ _ _ _ _ _ _ _ _ _ _ _ _ _ _ _
      · exact ah_uns w W l hT v R T i d g t h hi hg hd i11 hk hs ht _ _ _ _ _ _ _ _ _ _ _ _ _ _ _ _ _ _ _ _ _ _ _ _ _ _ _ _ _ _ _ _ _ _ _ _ _ _ _ _ _ _ _ _ _ _ _ _ _ _ _ _ _ _ _ _ _ _ _ _ _ _ _ _ _ _ _ _ _ _ _ _ _ _ _ _ _ _ _ _ _ _ _ _ _ _ _ _ _ _ _ _ _ _ _ _ _ _ _ _ _ _ _ _ _ _ _ _ _ _ _
      · exact ah_unn w W l hT v R T i d g t h hi hg hd i11 hk hs ht _ _ _ _ _ _ _ _ _ _ _ _ _ _ _ _ _ _ _ _ _ _ _ _ _ _ _ _ _ _ _ _ _ _ _ _ _ _ _ _ _ _ _ _ _ _ _ _ _ _ _ _ _ _ _ _ _ _ _ _ _ _ _ _ _ _ _ _ _ _ _ _ _ _ _ _ _ _ _ _ _ _ _ _ _ _ _ _ _ _ _ _ _ _ _ _ _ _ _ _ _ _ _ _ _ _ _ _ _ _ _
      · exact ah_unt w W l hT v R T i d g t h hi hg hd i11 hk hs ht _ _ _ _ _ _ _ _ _ _ _ _ _ _ _ _ _ _ _ _ _ _ _ _ _ _ _ _ _ _ _ _ _ _ _ _ _ _ _ _ _ _ _ _ _ _ _ _ _ _ _ _ _ _ _ _ _ _ _ _ _ _ _ _ _ _ _ _ _ _ _ _ _ _ _ _ _ _ _ _ _ _ _ _ _ _ _ _ _ _ _ _ _ _ _ _ _ _ _ _ _ _ _ _ _ _ _ _ _ _ _
    · refine ah_2t W v i g R T t hk hu h.t _ _ _ _ _ _ _ _ _ _ _ _ _ _ _ _ _ _ _ _ _ _ _ _ _ _ _ _ _ _ _ _ _ _ _ _ _ _ _ _ _ _ _ _ _ _ _ _ _ _ _ _ _ _ _ _ _ _ _ _ _ _ _ _ _ _ _ _ _ _ _ _ _ _ _ _ _ _ _ _ _ _ _ _ _ _ _ _ _ _ _ _ _ _ _ _ _ _ _ _ _ _ _ _ _ _ _ _ _ _ _ _ fun c3 c4 c5 c7 c9 c10 c11 c12 c13 c14 c15 c16 c17 c18 c19 c20 c21 c22 c23 c24 c25 c26 c27 c28 c29 c30 c31 c32 c33 c34 c35 c36 c37 c38 c39 c40 c41 c42 c43 c44 c45 c46 c47 c48 c49 c50 c51 c52 c53 c54 c55 c56 c57 c58 c59 c60 c61 c62 c63 c64 c65 c66 c67 c68 c69 c70 c71 c72 c73 c74 c75 c76 c77 c78 c79 c80 c81 c82 c83 c84 c85 c86 c87 c88 c89 c90 c91 c92 c93 c94 c95 c96 c97 c98 c99 c100 c101 c102 c103 c104 c105 c106 c107 c108 c109 c110 c111 c112 c113 c114 c115 => ?_
      by_cases hp : t.text = Ie.sLp
      · exact ah_par w W l hT v R T i d g t h hi hg hd i0 hk hp ht _ _ _ _ _ _ _ _ _ _ _ _ _ _ _ _ _ _ _ _ _ _ _ _ _ _ _ _ _ _ _ _ _ _ _ _ _ _ _ _ _ _ _ _ _ _ _ _ _ _ _ _ _ _ _ _ _ _ _ _ _ _ _ _ _ _ _ _ _ _ _ _ _ _ _ _ _ _ _ _ _ _ _ _ _ _ _ _ _ _ _ _ _ _ _ _ _ _ _ _ _ _ _ _ _ _ _ _ _ _ _
      · rw [drop_of ht, Ie.oper_no hk hu hp]
        exact ah_3 w W l hT v R T i g t h ht (.inr hp) _ (fun c0 c2 c3 c4 c5 c7 c9 c10 c11 c12 c13 c14 c15 c16 c17 c18 c19 c20 c21 c22 c23 c24 c25 c26 c27 c28 c29 c30 c31 c32 c33 c34 c35 c36 c37 c38 c39 c40 c41 c42 c43 c44 c45 c46 c47 c48 c49 c50 c51 c52 c53 c54 c55 c56 c57 c58 c59 c60 c61 c62 c63 c64 c65 c66 c67 c68 c69 c70 c71 c72 c73 c74 c75 c76 c77 c78 c79 c80 c81 c82 c83 c84 c85 c86 c87 c88 c89 c90 c91 c92 c93 c94 c95 c96 c97 c98 c99 c100 c101 c102 c103 c104 c105 c106 c107 c108 c109 c110 c111 c112 c113 c114 c115 => ah_none w W l v R T i t h hi (by omega) (by omega) (by omega) _ _ _ _ _ _ _ _ _ _ _ _ _ _ _ _ _ _ _ _ _ _ _ _ _ _ _ _ _ _ _ _ _ _ _ _ _ _ _ _ _ _ _ _ _ _ _ _ _ _ _ _ _ _ _ _ _ _ _ _ _ _ _ _ _ _ _ _ _ _ _ _ _ _ _ _ _ _ _ _ _ _ _ _ _ _ _ _ _ _ _ _ _ _ _ _ _ _ _ _ _ _ _ _ _ _ _ _ _ _ _ _ _) _ _ _ _ _ _ _ _ _ _ _ _ _ _ _ _ _ _ _ _ _ _ _ _ _ _ _ _ _ _ _ _ _ _ _ _ _ _ _ _ _ _ _ _ _ _ _ _ _ _ _ _ _ _ _ _ _ _ _ _ _ _ _ _ _ _ _ _ _ _ _ _ _ _ _ _ _ _ _ _ _ _ _ _ _ _ _ _ _ _ _ _ _ _ _ _ _ _ _ _ _ _ _ _ _ _ _ _ _ _ _
  · refine ah_2k W v i g R T t hk h.t _ _ _ _ _ _ _ _ _ _ _ _ _ _ _ _ _ _ _ _ _ _ _ _ _ _ _ _ _ _ _ _ _ _ _ _ _ _ _ _ _ _ _ _ _ _ _ _ _ _ _ _ _ _ _ _ _ _ _ _ _ _ _ _ _ _ _ _ _ _ _ _ _ _ _ _ _ _ _ _ _ _ _ _ _ _ _ _ _ _ _ _ _ _ _ _ _ _ _ _ _ _ _ _ _ _ _ _ _ _ _ _ fun c3 c4 c5 c7 c9 c10 c11 c12 c13 c14 c15 c16 c17 c18 c19 c20 c21 c22 c23 c24 c25 c26 c27 c28 c29 c30 c31 c32 c33 c34 c35 c36 c37 c38 c39 c40 c41 c42 c43 c44 c45 c46 c47 c48 c49 c50 c51 c52 c53 c54 c55 c56 c57 c58 c59 c60 c61 c62 c63 c64 c65 c66 c67 c68 c69 c70 c71 c72 c73 c74 c75 c76 c77 c78 c79 c80 c81 c82 c83 c84 c85 c86 c87 c88 c89 c90 c91 c92 c93 c94 c95 c96 c97 c98 c99 c100 c101 c102 c103 c104 c105 c106 c107 c108 c109 c110 c111 c112 c113 c114 c115 => ?_
    refine ah_3 w W l hT v R T i g t h ht (.inl hk) _ (fun c0 c2 c3 c4 c5 c7 c9 c10 c11 c12 c13 c14 c15 c16 c17 c18 c19 c20 c21 c22 c23 c24 c25 c26 c27 c28 c29 c30 c31 c32 c33 c34 c35 c36 c37 c38 c39 c40 c41 c42 c43 c44 c45 c46 c47 c48 c49 c50 c51 c52 c53 c54 c55 c56 c57 c58 c59 c60 c61 c62 c63 c64 c65 c66 c67 c68 c69 c70 c71 c72 c73 c74 c75 c76 c77 c78 c79 c80 c81 c82 c83 c84 c85 c86 c87 c88 c89 c90 c91 c92 c93 c94 c95 c96 c97 c98 c99 c100 c101 c102 c103 c104 c105 c106 c107 c108 c109 c110 c111 c112 c113 c114 c115 => ?_) _ _ _ _ _ _ _ _ _ _ _ _ _ _ _ _ _ _ _ _ _ _ _ _ _ _ _ _ _ _ _ _ _ _ _ _ _ _ _ _ _ _ _ _ _ _ _ _ _ _ _ _ _ _ _ _ _ _ _ _ _ _ _ _ _ _ _ _ _ _ _ _ _ _ _ _ _ _ _ _ _ _ _ _ _ _ _ _ _ _ _ _ _ _ _ _ _ _ _ _ _ _ _ _ _ _ _ _ _ _ _
    by_cases h2 : t.kind = 2
    · exact ah_num w W l hT v R T i d t h hi h2 ht _ _ _ _ _ _ _ _ _ _ _ _ _ _ _ _ _ _ _ _ _ _ _ _ _ _ _ _ _ _ _ _ _ _ _ _ _ _ _ _ _ _ _ _ _ _ _ _ _ _ _ _ _ _ _ _ _ _ _ _ _ _ _ _ _ _ _ _ _ _ _ _ _ _ _ _ _ _ _ _ _ _ _ _ _ _ _ _ _ _ _ _ _ _ _ _ _ _ _ _ _ _ _ _ _ _ _ _ _ _ _ _ _
    · by_cases h3 : t.kind = 3
      · exact ah_quo w W l hT v R T i d t h hi h3 ht _ _ _ _ _ _ _ _ _ _ _ _ _ _ _ _ _ _ _ _ _ _ _ _ _ _ _ _ _ _ _ _ _ _ _ _ _ _ _ _ _ _ _ _ _ _ _ _ _ _ _ _ _ _ _ _ _ _ _ _ _ _ _ _ _ _ _ _ _ _ _ _ _ _ _ _ _ _ _ _ _ _ _ _ _ _ _ _ _ _ _ _ _ _ _ _ _ _ _ _ _ _ _ _ _ _ _ _ _ _ _ _ _
      · by_cases h1 : t.kind = 1
        · exact ah_name w W l v R T i d t h hi h1 ht _ _ _ _ _ _ _ _ _ _ _ _ _ _ _ _ _ _ _ _ _ _ _ _ _ _ _ _ _ _ _ _ _ _ _ _ _ _ _ _ _ _ _ _ _ _ _ _ _ _ _ _ _ _ _ _ _ _ _ _ _ _ _ _ _ _ _ _ _ _ _ _ _ _ _ _ _ _ _ _ _ _ _ _ _ _ _ _ _ _ _ _ _ _ _ _ _ _ _ _ _ _ _ _ _ _ _ _ _ _ _ _ _
        · rw [drop_of ht, Ie.oper_other h1 h2 h3 hk]
          exact ah_none w W l v R T i t h hi h1 h2 h3 _ _ _ _ _ _ _ _ _ _ _ _ _ _ _ _ _ _ _ _ _ _ _ _ _ _ _ _ _ _ _ _ _ _ _ _ _ _ _ _ _ _ _ _ _ _ _ _ _ _ _ _ _ _ _ _ _ _ _ _ _ _ _ _ _ _ _ _ _ _ _ _ _ _ _ _ _ _ _ _ _ _ _ _ _ _ _ _ _ _ _ _ _ _ _ _ _ _ _ _ _ _ _ _ _ _ _ _ _ _ _ _ _

set_option maxRecDepth 100000 in
set_option maxHeartbeats 4000000 in
theorem ahead_of (d : Nat) (hd : d ≤ 60) (i11 : RdC d 11) (i0 : RdC d 0) : AhC d := by
  intro l v i g t w hG hv hT ht hi hg
  have HC : Hid (∀ W R T (c3 c4 c5 c7 c9 c10 c11 c12 c13 c14 c15 c16 c17 c18 c19 c20 c21 c22 c23 c24 c25 c26 c27 c28 c29 c30 c31 c32 c33 c34 c35 c36 c37 c38 c39 c40 c41 c42 c43 c44 c45 c46 c47 c48 c49 c50 c51 c52 c53 c54 c55 c56 c57 c58 c59 c60 c61 c62 c63 c64 c65 c66 c67 c68 c69 c70 c71 c72 c73 c74 c75 c76 c77 c78 c79 c80 c81 c82 c83 c84 c85 c86 c87 c88 c89 c90 c91 c92 c93 c94 c95 c96 c97 c98 c99 c100 c101 c102 c103 c104 c105 c106 c107 c108 c109 c110 c111 c112 c113 c114 c115 : Value), AhW w l v R T t W → Code.wp Tryz.prog (secs 2 ahBody) (bodyPost Tryz.prog Tryz.f57 (RpPost l (Ie.oper (d + 1) (l.drop i)) w)) ⟨#[v, .int .i64 i, .int .i64 g, c3, c4, c5, .pointer (some ⟨R, 0, none⟩), c7, .pointer (some ⟨T, 0, none⟩), c9, c10, c11, c12, c13, c14, c15, c16, c17, c18, c19, c20, c21, c22, c23, c24, c25, c26, c27, c28, c29, c30, c31, c32, c33, c34, c35, c36, c37, c38, c39, c40, c41, c42, c43, c44, c45, c46, c47, c48, c49, c50, c51, c52, c53, c54, c55, c56, c57, c58, c59, c60, c61, c62, c63, c64, c65, c66, c67, c68, c69, c70, c71, c72, c73, c74, c75, c76, c77, c78, c79, c80, c81, c82, c83, c84, c85, c86, c87, c88, c89, c90, c91, c92, c93, c94, c95, c96, c97, c98, c99, c100, c101, c102, c103, c104, c105, c106, c107, c108, c109, c110, c111, c112, c113, c114, c115], []⟩ W) := Lib.hid fun W R T c3 c4 c5 c7 c9 c10 c11 c12 c13 c14 c15 c16 c17 c18 c19 c20 c21 c22 c23 c24 c25 c26 c27 c28 c29 c30 c31 c32 c33 c34 c35 c36 c37 c38 c39 c40 c41 c42 c43 c44 c45 c46 c47 c48 c49 c50 c51 c52 c53 c54 c55 c56 c57 c58 c59 c60 c61 c62 c63 c64 c65 c66 c67 c68 c69 c70 c71 c72 c73 c74 c75 c76 c77 c78 c79 c80 c81 c82 c83 c84 c85 c86 c87 c88 c89 c90 c91 c92 c93 c94 c95 c96 c97 c98 c99 c100 c101 c102 c103 c104 c105 c106 c107 c108 c109 c110 c111 c112 c113 c114 c115 h => ah_2 d hd i11 i0 w W l hT v R T i g t h hi hg ht _ _ _ _ _ _ _ _ _ _ _ _ _ _ _ _ _ _ _ _ _ _ _ _ _ _ _ _ _ _ _ _ _ _ _ _ _ _ _ _ _ _ _ _ _ _ _ _ _ _ _ _ _ _ _ _ _ _ _ _ _ _ _ _ _ _ _ _ _ _ _ _ _ _ _ _ _ _ _ _ _ _ _ _ _ _ _ _ _ _ _ _ _ _ _ _ _ _ _ _ _ _ _ _ _ _ _ _ _ _ _
  have HA : Hid (AhW w l v w.heap.size (w.heap.size + 1) t ((w.alloc (.cells #[.string ⟨#[]⟩, .int .i64 0, .slice none 0 0] 57)).alloc (.cells #[.int .i64 t.kind, .string t.text, .int .i64 t.file, .int .i64 t.fr, .int .i64 t.en, .bool t.bl] 54))) := Lib.hid (by
    have b1 : Below w.heap.size w (w.alloc (.cells #[.string ⟨#[]⟩, .int .i64 0, .slice none 0 0] 57)) := (Below.refl _ _).alloc (Nat.le_refl _) _
    have b2 : Below (w.alloc (.cells #[.string ⟨#[]⟩, .int .i64 0, .slice none 0 0] 57)).heap.size (w.alloc (.cells #[.string ⟨#[]⟩, .int .i64 0, .slice none 0 0] 57)) ((w.alloc (.cells #[.string ⟨#[]⟩, .int .i64 0, .slice none 0 0] 57)).alloc (.cells #[.int .i64 t.kind, .string t.text, .int .i64 t.file, .int .i64 t.fr, .int .i64 t.en, .bool t.bl] 54)) := (Below.refl _ _).alloc (Nat.le_refl _) _
    have b3 := Below.then b1 b2
    have ez : (w.alloc (.cells #[.string ⟨#[]⟩, .int .i64 0, .slice none 0 0] 57)).heap.size = w.heap.size + 1 := by show (Array.push _ _).size = _; rw [Array.size_push]
    refine ⟨b3, Nat.le_refl _, by omega, (Nh.new w _ _ _).below b2, ?_, hG.later b3, hv.below b3⟩
    have := kat_new (w.alloc (.cells #[.string ⟨#[]⟩, .int .i64 0, .slice none 0 0] 57)) t
    rw [ez] at this
    exact this)
  obtain ⟨P, hP⟩ : ∃ P, P = RpPost l (Ie.oper (d + 1) (l.drop i)) w := ⟨_, rfl⟩
  rw [← hP] at HC ⊢
  obtain ⟨ad, cap, rfl, -⟩ := id hv
  obtain ⟨hlt, -⟩ := List.getElem?_eq_some_iff.1 ht
  obtain ⟨gb, o, rfl, -, -, -, hgb, hc⟩ := hv.cells (by omega)
  obtain ⟨d0, d1, d2, d3, d4, d5⟩ := hc i t ht
  obtain ⟨n, hn⟩ : ∃ n, n = l.length := ⟨_, rfl⟩
  rw [← hn] at hlt HC HA ⊢
  have z1 : (0 : Int) ≤ i := by omega
  have z2 : (i : Int) < n := by omega
  clear hv hc hn hT ht hP hG hg i11 i0
  go_enter Tryz.func57, Tryz.ntmps57
  show Code.wp Tryz.prog (secs 0 ahBody) _ _ _
  refine wp_sec 0 ahBody rfl ?_
  conv => arg 2; whnf
  go_wp2_with fail
  refine wp_sec 1 ahBody rfl ?_
  conv => arg 2; whnf
  go_wp2_with fail
  exact HC.out _ _ _ _ _ _ _ _ _ _ _ _ _ _ _ _ _ _ _ _ _ _ _ _ _ _ _ _ _ _ _ _ _ _ _ _ _ _ _ _ _ _ _ _ _ _ _ _ _ _ _ _ _ _ _ _ _ _ _ _ _ _ _ _ _ _ _ _ _ _ _ _ _ _ _ _ _ _ _ _ _ _ _ _ _ _ _ _ _ _ _ _ _ _ _ _ _ _ _ _ _ _ _ _ _ _ _ _ _ _ _ _ _ _ HA.out
end Go.Proofs.YtognifnalfjdgaaGreatDoor

/- What is proved: reading by levels, by the document (read): where nothing is left, less than signs between two, a choice. -/
namespace Go.Proofs.YtognifnalfjdgaaGreatDoor
open Go.RowKit Go.Shelf

noncomputable def rdBody : Code := Tryz.f28.body.getD .skip
theorem ret_rd {W : World} {R : Nat} {s : ByteArray} {n : Int} {k : Value} {a : Int} {tmps : Array Value} (h : C3 W R 0 s n k) (h6 : tmps.getD 8 undef = .pointer (some ⟨R, 0, none⟩)) (h7 : tmps.getD 9 undef = .int .i64 a) :
    (results Tryz.f28 tmps).run Tryz.prog W = .ok (.tuple #[.agg #[.string s, .int .i64 n, k], .int .i64 a]) W := by
  rw [results_cell_tmp rfl, h6, h7]
  simp [asAddr, Result.andThen, node_ret h]

/-- What holds once the result's block is there. -/
structure RdW (w : World) (l : List K) (v : Value) (R : Nat) (W : World) : Prop where
  bl : Below w.heap.size w W
  lo : w.heap.size ≤ R
  r : Nh W R ⟨#[]⟩ 0 (.slice none 0 0)
  gw : Gv w
  kw : Ks w v l
theorem RdW.gv {w : World} {l : List K} {v : Value} {R : Nat} {W : World} (h : RdW w l v R W) : Gv W := h.gw.later h.bl
theorem RdW.ks {w : World} {l : List K} {v : Value} {R : Nat} {W : World} (h : RdW w l v R W) : Ks W v l := h.kw.below h.bl
theorem RdW.below {w : World} {l : List K} {v : Value} {R : Nat} {W W' : World} (h : RdW w l v R W) (hB : Below W.heap.size W W') : RdW w l v R W' :=
  ⟨Below.then h.bl hB, h.lo, h.r.below hB, h.gw, h.kw⟩
theorem alloc_size (w : World) (o : Obj) : (w.alloc o).heap.size = w.heap.size + 1 := by show (Array.push _ _).size = _; rw [Array.size_push]
theorem below_alloc (w : World) (o : Obj) : Below w.heap.size w (w.alloc o) := (Below.refl _ _).alloc (Nat.le_refl _) _
/-- What was told is told on, by one's own block. -/
theorem pass_end {l : List K} {q : Option (Ie.E × List K)} {w W w2 W' : World} {R : Nat} {s1 : ByteArray} {n1 : Int} {ad1 : Option Addr} {m1 : Nat} {a : Int} (hB : Below w.heap.size w W) (hlo : w.heap.size ≤ R) (hR : R < W.heap.size) (hB2 : Below W.heap.size W w2) (hW' : Below w2.heap.size (set3 w2 R s1 n1 (.slice ad1 m1 m1)) W')
    (hq : match q with | none => a = -1 | some (x, r) => ∃ j : Nat, a = j ∧ j ≤ l.length ∧ r = l.drop j ∧ Nd (fun b => W.heap.size ≤ b) w2 x s1 n1 (.slice ad1 m1 m1)) :
    RpPost l q w (.returned (.tuple #[.agg #[.string s1, .int .i64 n1, .slice ad1 m1 m1], .int .i64 a])) W' := by
  have h1 := set3_below (Below.then hB hB2) R s1 n1 (.slice ad1 m1 m1) hlo
  have hs := h1.size
  have hs2 := hB2.size
  refine ⟨s1, n1, ad1, m1, a, rfl, h1.trans (hW'.mono (by have := hB.size; omega)), ?_⟩
  cases q with
  | none => exact hq
  | some p =>
    obtain ⟨x, r⟩ := p
    obtain ⟨j, h2, h3, h4, hN⟩ := hq
    refine ⟨j, h2, h3, h4, ?_⟩
    have hz := hB.size
    have h5 := hN.set3 (R := R) (fun b hb _ => by have : W.heap.size ≤ b := hb; omega) s1 n1 (.slice ad1 m1 m1)
    exact (h5.keep fun b hb hl => ⟨(by have : W.heap.size ≤ b := hb; omega : w.heap.size ≤ b), fun o v e => by
      rw [set3_size] at hl
      exact (hW'.cell (p := ⟨b, o, none⟩) hl).trans e⟩)

set_option maxRecDepth 100000 in
set_option maxHeartbeats 8000000 in
theorem rd_none (w W : World) (l : List K) (v : Value) (R i m : Nat) (g : Int) (h : RdW w l v R W) (_hi : i ≤ 2000000) (hg : 60 < g ∨ (g ≤ 60 ∧ l.length ≤ i)) (hg0 : 0 ≤ g) (hg1 : g ≤ 61) (_hl : l.length ≤ 1000000) (c4 c5 c6 c7 c9 c10 c11 c12 c13 c14 c15 c16 c17 c18 c19 c20 c21 c22 c23 c24 c25 c26 c27 c28 c29 c30 c31 c32 c33 c34 c35 c36 c37 c38 c39 c40 c41 c42 c43 c44 c45 c46 c47 c48 c49 c50 c51 c52 c53 c54 c55 c56 c57 c58 c59 c60 c61 c62 c63 c64 c65 c66 c67 c68 c69 c70 c71 c72 c73 c74 c75 c76 c77 c78 c79 c80 c81 c82 c83 c84 c85 c86 c87 c88 c89 c90 c91 c92 c93 c94 c95 c96 c97 c98 c99 c100 c101 c102 c103 c104 c105 c106 c107 c108 c109 c110 c111 c112 c113 c114 c115 c116 c117 c118 c119 c120 c121 c122 c123 c124 c125 c126 c127 c128 c129 c130 c131 c132 c133 c134 c135 c136 c137 c138 : Value) :
    Code.wp Tryz.prog (secs 1 rdBody) (bodyPost Tryz.prog Tryz.f28 (RpPost l none w)) ⟨#[v, .int .i64 i, .int .i64 m, .int .i64 g, c4, c5, c6, c7, .pointer (some ⟨R, 0, none⟩), c9, c10, c11, c12, c13, c14, c15, c16, c17, c18, c19, c20, c21, c22, c23, c24, c25, c26, c27, c28, c29, c30, c31, c32, c33, c34, c35, c36, c37, c38, c39, c40, c41, c42, c43, c44, c45, c46, c47, c48, c49, c50, c51, c52, c53, c54, c55, c56, c57, c58, c59, c60, c61, c62, c63, c64, c65, c66, c67, c68, c69, c70, c71, c72, c73, c74, c75, c76, c77, c78, c79, c80, c81, c82, c83, c84, c85, c86, c87, c88, c89, c90, c91, c92, c93, c94, c95, c96, c97, c98, c99, c100, c101, c102, c103, c104, c105, c106, c107, c108, c109, c110, c111, c112, c113, c114, c115, c116, c117, c118, c119, c120, c121, c122, c123, c124, c125, c126, c127, c128, c129, c130, c131, c132, c133, c134, c135, c136, c137, c138], []⟩ W := by
  obtain ⟨ad, cap, rfl, -⟩ := id h.ks
  have HN : Hid (∀ s n k, Nh (set3 W R s n k) R s n k) := Lib.hid fun s n k => set3_nh h.r s n k
  obtain ⟨r0, r1, r2⟩ := h.r.c3
  have f0 := h.r.fr 0
  have f1 := h.r.fr 1
  have f2 := h.r.fr 2
  have lR := lt_of_cell r0
  obtain ⟨P, hP⟩ : ∃ P, P = RpPost l none w := ⟨_, rfl⟩
  have HE : Hid (P (.returned (.tuple #[.agg #[.string ⟨#[]⟩, .int .i64 0, .slice none 0 0], .int .i64 (-1)])) (set3 W R ⟨#[]⟩ 0 (.slice none 0 0))) := Lib.hid (by rw [hP]; exact no_end (set3_below h.bl R _ _ _ h.lo))
  rw [← hP]
  obtain ⟨n, hn⟩ : ∃ n, n = l.length := ⟨_, rfl⟩
  rw [← hn] at hg _hl ⊢
  clear h hP hn
  rcases hg with hg | ⟨hg, hi2⟩
  · clear hg0
    refine wp_sec 1 rdBody rfl ?_
    conv => arg 2; whnf
    go_wp2_with fail
    exact bodyPost_ret (ret_rd (HN.out ⟨#[]⟩ 0 (.slice none 0 0)).c3 rfl rfl) rfl HE.out
  · have z1 : ¬ 60 < g := by omega
    have z2 : (n : Int) ≤ i := by omega
    refine wp_sec 1 rdBody rfl ?_
    conv => arg 2; whnf
    go_wp2_with fail
    exact bodyPost_ret (ret_rd (HN.out ⟨#[]⟩ 0 (.slice none 0 0)).c3 rfl rfl) rfl HE.out

set_option maxRecDepth 100000 in
set_option maxHeartbeats 8000000 in
theorem rd_1 (W : World) (l : List K) (v : Value) (R i m : Nat) (g : Int) (hv : Ks W v l) (hi : i < l.length) (_hl : l.length ≤ 1000000) (hg : g ≤ 60) (hg0 : 0 ≤ g) (Q : Ending → World → Prop) (c4 c5 c6 c7 c9 c10 c11 c12 c13 c14 c15 c16 c17 c18 c19 c20 c21 c22 c23 c24 c25 c26 c27 c28 c29 c30 c31 c32 c33 c34 c35 c36 c37 c38 c39 c40 c41 c42 c43 c44 c45 c46 c47 c48 c49 c50 c51 c52 c53 c54 c55 c56 c57 c58 c59 c60 c61 c62 c63 c64 c65 c66 c67 c68 c69 c70 c71 c72 c73 c74 c75 c76 c77 c78 c79 c80 c81 c82 c83 c84 c85 c86 c87 c88 c89 c90 c91 c92 c93 c94 c95 c96 c97 c98 c99 c100 c101 c102 c103 c104 c105 c106 c107 c108 c109 c110 c111 c112 c113 c114 c115 c116 c117 c118 c119 c120 c121 c122 c123 c124 c125 c126 c127 c128 c129 c130 c131 c132 c133 c134 c135 c136 c137 c138 : Value)
    (hc : ∀ (c4 c5 c6 c7 c9 c10 c11 c12 c13 c14 c15 c16 c17 c18 c19 c20 c21 c22 c23 c24 c25 c26 c27 c28 c29 c30 c31 c32 c33 c34 c35 c36 c37 c38 c39 c40 c41 c42 c43 c44 c45 c46 c47 c48 c49 c50 c51 c52 c53 c54 c55 c56 c57 c58 c59 c60 c61 c62 c63 c64 c65 c66 c67 c68 c69 c70 c71 c72 c73 c74 c75 c76 c77 c78 c79 c80 c81 c82 c83 c84 c85 c86 c87 c88 c89 c90 c91 c92 c93 c94 c95 c96 c97 c98 c99 c100 c101 c102 c103 c104 c105 c106 c107 c108 c109 c110 c111 c112 c113 c114 c115 c116 c117 c118 c119 c120 c121 c122 c123 c124 c125 c126 c127 c128 c129 c130 c131 c132 c133 c134 c135 c136 c137 c138 : Value), Code.wp Tryz.prog (secs 2 rdBody) (bodyPost Tryz.prog Tryz.f28 Q) ⟨#[v, .int .i64 i, .int .i64 m, .int .i64 g, c4, c5, c6, c7, .pointer (some ⟨R, 0, none⟩), c9, c10, c11, c12, c13, c14, c15, c16, c17, c18, c19, c20, c21, c22, c23, c24, c25, c26, c27, c28, c29, c30, c31, c32, c33, c34, c35, c36, c37, c38, c39, c40, c41, c42, c43, c44, c45, c46, c47, c48, c49, c50, c51, c52, c53, c54, c55, c56, c57, c58, c59, c60, c61, c62, c63, c64, c65, c66, c67, c68, c69, c70, c71, c72, c73, c74, c75, c76, c77, c78, c79, c80, c81, c82, c83, c84, c85, c86, c87, c88, c89, c90, c91, c92, c93, c94, c95, c96, c97, c98, c99, c100, c101, c102, c103, c104, c105, c106, c107, c108, c109, c110, c111, c112, c113, c114, c115, c116, c117, c118, c119, c120, c121, c122, c123, c124, c125, c126, c127, c128, c129, c130, c131, c132, c133, c134, c135, c136, c137, c138], []⟩ W) :
    Code.wp Tryz.prog (secs 1 rdBody) (bodyPost Tryz.prog Tryz.f28 Q) ⟨#[v, .int .i64 i, .int .i64 m, .int .i64 g, c4, c5, c6, c7, .pointer (some ⟨R, 0, none⟩), c9, c10, c11, c12, c13, c14, c15, c16, c17, c18, c19, c20, c21, c22, c23, c24, c25, c26, c27, c28, c29, c30, c31, c32, c33, c34, c35, c36, c37, c38, c39, c40, c41, c42, c43, c44, c45, c46, c47, c48, c49, c50, c51, c52, c53, c54, c55, c56, c57, c58, c59, c60, c61, c62, c63, c64, c65, c66, c67, c68, c69, c70, c71, c72, c73, c74, c75, c76, c77, c78, c79, c80, c81, c82, c83, c84, c85, c86, c87, c88, c89, c90, c91, c92, c93, c94, c95, c96, c97, c98, c99, c100, c101, c102, c103, c104, c105, c106, c107, c108, c109, c110, c111, c112, c113, c114, c115, c116, c117, c118, c119, c120, c121, c122, c123, c124, c125, c126, c127, c128, c129, c130, c131, c132, c133, c134, c135, c136, c137, c138], []⟩ W := by
  obtain ⟨ad, cap, rfl, -⟩ := id hv
  have HC := Lib.hid hc
  obtain ⟨n, hn⟩ : ∃ n, n = l.length := ⟨_, rfl⟩
  rw [← hn] at hi _hl HC ⊢
  have z1 : ¬ 60 < g := by omega
  have z2 : ¬ (n : Int) ≤ i := by omega
  clear hv hc hn
  refine wp_sec 1 rdBody rfl ?_
  conv => arg 2; whnf
  go_wp2_with fail
  exact HC.out _ _ _ _ _ _ _ _ _ _ _ _ _ _ _ _ _ _ _ _ _ _ _ _ _ _ _ _ _ _ _ _ _ _ _ _ _ _ _ _ _ _ _ _ _ _ _ _ _ _ _ _ _ _ _ _ _ _ _ _ _ _ _ _ _ _ _ _ _ _ _ _ _ _ _ _ _ _ _ _ _ _ _ _ _ _ _ _ _ _ _ _ _ _ _ _ _ _ _ _ _ _ _ _ _ _ _ _ _ _ _ _ _ _ _ _ _ _ _ _ _ _ _ _ _ _ _ _ _ _ _ _ _ _

set_option maxRecDepth 100000 in
set_option maxHeartbeats 8000000 in
theorem rd_11 (w W : World) (l : List K) (hT : Tb l) (v : Value) (R i d : Nat) (g : Int) (h : RdW w l v R W) (hi : i < l.length) (hg : g = 61 - ((d + 1 : Nat) : Int)) (ah : AhC d) (c4 c5 c6 c7 c9 c10 c11 c12 c13 c14 c15 c16 c17 c18 c19 c20 c21 c22 c23 c24 c25 c26 c27 c28 c29 c30 c31 c32 c33 c34 c35 c36 c37 c38 c39 c40 c41 c42 c43 c44 c45 c46 c47 c48 c49 c50 c51 c52 c53 c54 c55 c56 c57 c58 c59 c60 c61 c62 c63 c64 c65 c66 c67 c68 c69 c70 c71 c72 c73 c74 c75 c76 c77 c78 c79 c80 c81 c82 c83 c84 c85 c86 c87 c88 c89 c90 c91 c92 c93 c94 c95 c96 c97 c98 c99 c100 c101 c102 c103 c104 c105 c106 c107 c108 c109 c110 c111 c112 c113 c114 c115 c116 c117 c118 c119 c120 c121 c122 c123 c124 c125 c126 c127 c128 c129 c130 c131 c132 c133 c134 c135 c136 c137 c138 : Value) :
    Code.wp Tryz.prog (secs 2 rdBody) (bodyPost Tryz.prog Tryz.f28 (RpPost l (Ie.oper (d + 1) (l.drop i)) w)) ⟨#[v, .int .i64 i, .int .i64 ((11 : Nat) : Int), .int .i64 g, c4, c5, c6, c7, .pointer (some ⟨R, 0, none⟩), c9, c10, c11, c12, c13, c14, c15, c16, c17, c18, c19, c20, c21, c22, c23, c24, c25, c26, c27, c28, c29, c30, c31, c32, c33, c34, c35, c36, c37, c38, c39, c40, c41, c42, c43, c44, c45, c46, c47, c48, c49, c50, c51, c52, c53, c54, c55, c56, c57, c58, c59, c60, c61, c62, c63, c64, c65, c66, c67, c68, c69, c70, c71, c72, c73, c74, c75, c76, c77, c78, c79, c80, c81, c82, c83, c84, c85, c86, c87, c88, c89, c90, c91, c92, c93, c94, c95, c96, c97, c98, c99, c100, c101, c102, c103, c104, c105, c106, c107, c108, c109, c110, c111, c112, c113, c114, c115, c116, c117, c118, c119, c120, c121, c122, c123, c124, c125, c126, c127, c128, c129, c130, c131, c132, c133, c134, c135, c136, c137, c138], []⟩ W := by
  have hl1 := hT.1
  have AH := Lib.hid (ah l v i g _ W h.gv h.ks hT (List.getElem?_eq_getElem hi) (by omega) hg)
  have HW := Lib.hid h
  obtain ⟨q, hq⟩ : ∃ q, q = Ie.oper (d + 1) (l.drop i) := ⟨_, rfl⟩
  rw [← hq] at AH ⊢
  obtain ⟨P, hP⟩ : ∃ P, P = RpPost l q w := ⟨_, rfl⟩
  rw [← hP]
  have HP := Lib.hid hP
  clear h ah hq hT hg hi hP
  refine wp_sec 2 rdBody rfl ?_
  conv => arg 2; whnf
  go_wp2_with fail
  refine AH.out.mono ?_
  rintro e w2 ⟨s1, n1, ad1, m1, a, rfl, hB2, hqq⟩
  have HE := Lib.hid (pass_end (w := w) HW.out.bl HW.out.lo HW.out.r.lt hB2 (Below.refl _ _) hqq)
  have hr := HW.out.r.below hB2
  have HN := Lib.hid (set3_nh hr s1 n1 (.slice ad1 m1 m1))
  obtain ⟨r0, r1, r2⟩ := hr.c3
  have f0 := hr.fr 0
  have f1 := hr.fr 1
  have f2 := hr.fr 2
  have lR := lt_of_cell r0
  rw [← HP.out] at HE
  clear hqq hB2 hr
  go_wp2_with fail
  exact bodyPost_ret (ret_rd HN.out.c3 rfl rfl) rfl HE.out

/-- What holds once something has been read. -/
structure LpW (w : World) (l : List K) (v : Value) (R X : Nat) (x : Ie.E) (s : ByteArray) (n : Int) (ad : Option Addr) (k : Nat) (j : Nat) (W : World) : Prop where
  bl : Below w.heap.size w W
  lo : w.heap.size ≤ R
  lx : w.heap.size ≤ X
  ne : X ≠ R
  r : Nh W R ⟨#[]⟩ 0 (.slice none 0 0)
  own : Nh W X s n (.slice ad k k)
  nd : Nd (fun b => w.heap.size ≤ b ∧ b ≠ R ∧ b ≠ X) W x s n (.slice ad k k)
  gw : Gv w
  kw : Ks w v l
  jl : j ≤ l.length
theorem LpW.gv {w : World} {l : List K} {v : Value} {R X : Nat} {x : Ie.E} {s : ByteArray} {n : Int} {ad : Option Addr} {k j : Nat} {W : World} (h : LpW w l v R X x s n ad k j W) : Gv W := h.gw.later h.bl
theorem LpW.ks {w : World} {l : List K} {v : Value} {R X : Nat} {x : Ie.E} {s : ByteArray} {n : Int} {ad : Option Addr} {k j : Nat} {W : World} (h : LpW w l v R X x s n ad k j W) : Ks W v l := h.kw.below h.bl
theorem LpW.below {w : World} {l : List K} {v : Value} {R X : Nat} {x : Ie.E} {s : ByteArray} {n : Int} {ad : Option Addr} {k j : Nat} {W W' : World} (h : LpW w l v R X x s n ad k j W) (hB : Below W.heap.size W W') : LpW w l v R X x s n ad k j W' :=
  ⟨Below.then h.bl hB, h.lo, h.lx, h.ne, h.r.below hB, h.own.below hB, h.nd.below hB, h.gw, h.kw, h.jl⟩
theorem LpW.of {w W w2 : World} {l : List K} {v : Value} {R : Nat} {x : Ie.E} {s : ByteArray} {n : Int} {ad : Option Addr} {k j : Nat} (h : RdW w l v R W) (hB : Below W.heap.size W w2) (hj : j ≤ l.length) (hN : Nd (fun b => W.heap.size ≤ b) w2 x s n (.slice ad k k)) :
    LpW w l v R w2.heap.size x s n ad k j (w2.alloc (.cells #[.string s, .int .i64 n, .slice ad k k] 57)) := by
  have b2 := Below.then hB (below_alloc w2 (.cells #[.string s, .int .i64 n, .slice ad k k] 57))
  have h' := h.below b2
  have hs := h.bl.size
  have hs2 := hB.size
  have hR := h.r.lt
  refine ⟨h'.bl, h.lo, by omega, by omega, h'.r, Nh.new w2 s n _, ?_, h.gw, h.kw, hj⟩
  exact (hN.mono fun b hb hl => by have : W.heap.size ≤ b := hb; omega).alloc _
/-- What one has read is told. -/
theorem lp_end {w W : World} {l : List K} {v : Value} {R X : Nat} {x : Ie.E} {s : ByteArray} {n : Int} {ad : Option Addr} {k j : Nat} (h : LpW w l v R X x s n ad k j W) :
    RpPost l (some (x, l.drop j)) w (.returned (.tuple #[.agg #[.string s, .int .i64 n, .slice ad k k], .int .i64 ((j : Nat) : Int)])) (set3 W R s n (.slice ad k k)) :=
  ⟨s, n, ad, k, j, rfl, set3_below h.bl R _ _ _ h.lo, j, rfl, h.jl, rfl, (h.nd.set3 (R := R) (fun _ hb _ => hb.2.1) _ _ _).mono fun _ hb _ => hb.1⟩

set_option maxRecDepth 100000 in
set_option maxHeartbeats 8000000 in
theorem rd_up (w W : World) (l : List K) (hT : Tb l) (v : Value) (R i _ m : Nat) (g : Int) (h : RdW w l v R W) (_hi : i < l.length) (_hg0 : 0 ≤ g) (_hg1 : g ≤ 60) (hm : m ≤ 10) (q : Option (Ie.E × List K)) (hr : Calls Tryz.prog 28 #[v, .int .i64 i, .int .i64 ((m + 1 : Nat) : Int), .int .i64 g] W (RpPost l q W)) (Q : Ending → World → Prop)
    (hno : q = none → ∀ (s : ByteArray) (n : Int) (ad : Option Addr) (k : Nat) W', Below w.heap.size w W' → Q (.returned (.tuple #[.agg #[.string s, .int .i64 n, .slice ad k k], .int .i64 (-1)])) W')
    (hc : ∀ (X : Nat) (x : Ie.E) (s : ByteArray) (n : Int) (ad : Option Addr) (k j : Nat) (W : World) (c1 c4 c5 c6 c7 c9 c12 c13 c14 c15 c16 c17 c18 c19 c20 c21 c22 c23 c24 c25 c26 c27 c28 c29 c30 c31 c32 c33 c34 c35 c36 c37 c38 c39 c40 c41 c42 c43 c44 c45 c46 c47 c48 c49 c50 c51 c52 c53 c54 c55 c56 c57 c58 c59 c60 c61 c62 c63 c64 c65 c66 c67 c68 c69 c70 c71 c72 c73 c74 c75 c76 c77 c78 c79 c80 c81 c82 c83 c84 c85 c86 c87 c88 c89 c90 c91 c92 c93 c94 c95 c96 c97 c98 c99 c100 c101 c102 c103 c104 c105 c106 c107 c108 c109 c110 c111 c112 c113 c114 c115 c116 c117 c118 c119 c120 c121 c122 c123 c124 c125 c126 c127 c128 c129 c130 c131 c132 c133 c134 c135 c136 c137 c138 : Value), q = some (x, l.drop j) → LpW w l v R X x s n ad k j W → Code.wp Tryz.prog (secs 5 rdBody) (bodyPost Tryz.prog Tryz.f28 Q) ⟨#[v, c1, .int .i64 m, .int .i64 g, c4, c5, c6, c7, .pointer (some ⟨R, 0, none⟩), c9, .pointer (some ⟨X, 0, none⟩), .int .i64 ((j : Nat) : Int), c12, c13, c14, c15, c16, c17, c18, c19, c20, c21, c22, c23, c24, c25, c26, c27, c28, c29, c30, c31, c32, c33, c34, c35, c36, c37, c38, c39, c40, c41, c42, c43, c44, c45, c46, c47, c48, c49, c50, c51, c52, c53, c54, c55, c56, c57, c58, c59, c60, c61, c62, c63, c64, c65, c66, c67, c68, c69, c70, c71, c72, c73, c74, c75, c76, c77, c78, c79, c80, c81, c82, c83, c84, c85, c86, c87, c88, c89, c90, c91, c92, c93, c94, c95, c96, c97, c98, c99, c100, c101, c102, c103, c104, c105, c106, c107, c108, c109, c110, c111, c112, c113, c114, c115, c116, c117, c118, c119, c120, c121, c122, c123, c124, c125, c126, c127, c128, c129, c130, c131, c132, c133, c134, c135, c136, c137, c138], []⟩ W) (c4 c5 c6 c7 c9 c10 c11 c12 c13 c14 c15 c16 c17 c18 c19 c20 c21 c22 c23 c24 c25 c26 c27 c28 c29 c30 c31 c32 c33 c34 c35 c36 c37 c38 c39 c40 c41 c42 c43 c44 c45 c46 c47 c48 c49 c50 c51 c52 c53 c54 c55 c56 c57 c58 c59 c60 c61 c62 c63 c64 c65 c66 c67 c68 c69 c70 c71 c72 c73 c74 c75 c76 c77 c78 c79 c80 c81 c82 c83 c84 c85 c86 c87 c88 c89 c90 c91 c92 c93 c94 c95 c96 c97 c98 c99 c100 c101 c102 c103 c104 c105 c106 c107 c108 c109 c110 c111 c112 c113 c114 c115 c116 c117 c118 c119 c120 c121 c122 c123 c124 c125 c126 c127 c128 c129 c130 c131 c132 c133 c134 c135 c136 c137 c138 : Value) :
    Code.wp Tryz.prog (secs 2 rdBody) (bodyPost Tryz.prog Tryz.f28 Q) ⟨#[v, .int .i64 i, .int .i64 m, .int .i64 g, c4, c5, c6, c7, .pointer (some ⟨R, 0, none⟩), c9, c10, c11, c12, c13, c14, c15, c16, c17, c18, c19, c20, c21, c22, c23, c24, c25, c26, c27, c28, c29, c30, c31, c32, c33, c34, c35, c36, c37, c38, c39, c40, c41, c42, c43, c44, c45, c46, c47, c48, c49, c50, c51, c52, c53, c54, c55, c56, c57, c58, c59, c60, c61, c62, c63, c64, c65, c66, c67, c68, c69, c70, c71, c72, c73, c74, c75, c76, c77, c78, c79, c80, c81, c82, c83, c84, c85, c86, c87, c88, c89, c90, c91, c92, c93, c94, c95, c96, c97, c98, c99, c100, c101, c102, c103, c104, c105, c106, c107, c108, c109, c110, c111, c112, c113, c114, c115, c116, c117, c118, c119, c120, c121, c122, c123, c124, c125, c126, c127, c128, c129, c130, c131, c132, c133, c134, c135, c136, c137, c138], []⟩ W := by
  have hl1 := hT.1
  have HR : Hid (Calls Tryz.prog 28 #[v, .int .i64 i, .int .i64 ((m : Int) + 1), .int .i64 g] W (RpPost l q W)) := Lib.hid hr
  have HW := Lib.hid h
  have HC := Lib.hid hc
  have HN := Lib.hid hno
  have z1 : ¬ (m : Int) = 11 := by omega
  have z2 : ¬ m = 11 := by omega
  clear h hr hc hno hT _hi
  refine wp_sec 2 rdBody rfl ?_
  conv => arg 2; whnf
  go_wp2_with fail
  refine wp_sec 3 rdBody rfl ?_
  conv => arg 2; whnf
  go_wp2_with fail
  refine HR.out.mono ?_
  rintro e w2 ⟨s1, n1, ad1, m1, a, rfl, hB2, hqq⟩
  have HB2 := Lib.hid hB2
  clear hB2
  go_wp2_with fail
  cases q with
  | none =>
    obtain rfl : a = -1 := hqq
    have h2 := HW.out.r.below HB2.out
    have h3 := h2.below (below_alloc w2 (.cells #[.string s1, .int .i64 n1, .slice ad1 m1 m1] 57))
    have hx := Nh.new w2 s1 n1 (.slice ad1 m1 m1)
    obtain ⟨V, hV⟩ : ∃ V, V = w2.alloc (.cells #[.string s1, .int .i64 n1, .slice ad1 m1 m1] 57) := ⟨_, rfl⟩
    obtain ⟨X, hX⟩ : ∃ X, X = w2.heap.size := ⟨_, rfl⟩
    have hne : X ≠ R := by have := h2.lt; omega
    have hBV : Below w.heap.size w V := by rw [hV]; exact Below.then HW.out.bl (Below.then HB2.out (below_alloc w2 _))
    rw [← hV] at h3 hx ⊢
    rw [← hX] at hx ⊢
    have HE := Lib.hid (HN.out rfl s1 n1 ad1 m1 _ (set3_below hBV R s1 n1 (.slice ad1 m1 m1) HW.out.lo))
    have HNH := Lib.hid (set3_nh h3 s1 n1 (.slice ad1 m1 m1))
    obtain ⟨r0, r1, r2⟩ := h3.c3
    obtain ⟨x0, x1, x2⟩ := hx.c3
    have f0 := h3.fr 0
    have f1 := h3.fr 1
    have f2 := h3.fr 2
    clear h2 h3 hx hBV hV hX
    refine wp_sec 4 rdBody rfl ?_
    conv => arg 2; whnf
    go_wp2_with fail
    exact bodyPost_ret (ret_rd HNH.out.c3 rfl rfl) rfl HE.out
  | some p =>
    obtain ⟨x, r⟩ := p
    obtain ⟨j, rfl, hj, rfl, hN⟩ := hqq
    have HL := Lib.hid (LpW.of HW.out HB2.out hj hN)
    clear hN
    refine wp_sec 4 rdBody rfl ?_
    conv => arg 2; whnf
    go_wp2_with fail
    exact HC.out w2.heap.size x s1 n1 ad1 m1 j _ _ _ _ _ _ _ _ _ _ _ _ _ _ _ _ _ _ _ _ _ _ _ _ _ _ _ _ _ _ _ _ _ _ _ _ _ _ _ _ _ _ _ _ _ _ _ _ _ _ _ _ _ _ _ _ _ _ _ _ _ _ _ _ _ _ _ _ _ _ _ _ _ _ _ _ _ _ _ _ _ _ _ _ _ _ _ _ _ _ _ _ _ _ _ _ _ _ _ _ _ _ _ _ _ _ _ _ _ _ _ _ _ _ _ _ _ _ _ _ _ _ _ _ _ _ _ _ _ _ _ _ _ _ rfl HL.out

end Go.Proofs.YtognifnalfjdgaaGreatDoor

/- What is proved: reading a choice, by the document (read). -/
namespace Go.Proofs.YtognifnalfjdgaaGreatDoor
open Go.RowKit Go.Shelf

theorem c3_at (w : World) (C : Array Value) (o : Nat) (s : ByteArray) (n : Int) (k : Value) (h0 : C[o]? = some (.string s)) (h1 : C[o + 1]? = some (.int .i64 n)) (h2 : C[o + 2]? = some k) : C3 (w.alloc (.cells C 57)) w.heap.size o s n k := by
  refine ⟨?_, ?_, ?_⟩ <;> rw [World.cell?_alloc_mark] <;> assumption
def Ie.askS (x y : Ie.E) (q : Option (Ie.E × List K)) : Option (Ie.E × List K) :=
  match q with
  | none => none
  | some (z, r) => some (.ask x y z, r)
def Ie.thenS (e : Ie.Rd) (x : Ie.E) (q : Option (Ie.E × List K)) : Option (Ie.E × List K) :=
  match q with
  | none => none
  | some (y, r) => Ie.askS x y (e r)
/-- Behind a first part: a choice, or that part alone. -/
def Ie.chS (e : Ie.Rd) (x : Ie.E) (l : List K) : Option (Ie.E × List K) :=
  match l with
  | [] => some (x, [])
  | u :: r => if Ie.isS u Ie.sAsk then Ie.thenS e x (Ie.shut Ie.sCol (e r)) else some (x, u :: r)
theorem Ie.exprS_ch (o e : Ie.Rd) (l : List K) : Ie.exprS o e l = match Ie.levels o 10 l with | none => none | some (x, l') => Ie.chS e x l' := by
  unfold Ie.exprS
  cases Ie.levels o 10 l with
  | none => rfl
  | some p =>
    obtain ⟨x, l'⟩ := p
    cases l' with
    | nil => rfl
    | cons u r =>
      show (if Ie.isS u Ie.sAsk then _ else _) = (if Ie.isS u Ie.sAsk then _ else _)
      split
      · cases Ie.shut Ie.sCol (e r) with
        | none => rfl
        | some q =>
          obtain ⟨y, r2⟩ := q
          show (match e r2 with | none => none | some (z, r3) => some (Ie.E.ask x y z, r3)) = Ie.askS x y (e r2)
          cases e r2 <;> rfl
      · rfl
theorem Ie.chS_no {e : Ie.Rd} {x : Ie.E} {l : List K} {j : Nat} (h : Ie.isAt l j Ie.sAsk = false) : Ie.chS e x (l.drop j) = some (x, l.drop j) := by
  unfold Ie.isAt at h
  cases hl : l[j]? with
  | none =>
    rw [List.drop_eq_nil_of_le (by rw [List.getElem?_eq_none_iff] at hl; exact hl)]
    rfl
  | some u =>
    rw [hl] at h
    rw [drop_of hl]
    have h' : Ie.isS u Ie.sAsk = false := h
    show (if Ie.isS u Ie.sAsk then _ else _) = _
    rw [if_neg (by rw [h']; simp)]
theorem Ie.chS_yes {e : Ie.Rd} {x : Ie.E} {l : List K} {j : Nat} (h : Ie.isAt l j Ie.sAsk = true) : j < l.length ∧ Ie.chS e x (l.drop j) = Ie.thenS e x (Ie.shut Ie.sCol (e (l.drop (j + 1)))) := by
  unfold Ie.isAt at h
  cases hl : l[j]? with
  | none => rw [hl] at h; cases h
  | some u =>
    rw [hl] at h
    rw [drop_of hl]
    have h' : Ie.isS u Ie.sAsk = true := h
    refine ⟨(List.getElem?_eq_some_iff.1 hl).1, ?_⟩
    show (if Ie.isS u Ie.sAsk then _ else _) = _
    rw [if_pos h']
theorem Ie.shut_at {s : ByteArray} {y : Ie.E} {l : List K} {j : Nat} : Ie.shut s (some (y, l.drop j)) = if Ie.isAt l j s then some (y, l.drop (j + 1)) else none := by
  unfold Ie.isAt
  cases hl : l[j]? with
  | none =>
    rw [List.drop_eq_nil_of_le (by rw [List.getElem?_eq_none_iff] at hl; exact hl)]
    rfl
  | some u =>
    rw [drop_of hl]
    rfl
theorem isAt_lt {l : List K} {j : Nat} {s : ByteArray} (h : Ie.isAt l j s = true) : j < l.length := by
  unfold Ie.isAt at h
  cases hl : l[j]? with
  | none => rw [hl] at h; cases h
  | some u => exact (List.getElem?_eq_some_iff.1 hl).1
/-- What reading tells, of an expression in memory. -/
def RdQ (l : List K) (q : Option (Ie.E × List K)) (B : Nat) (W : World) (s : ByteArray) (n : Int) (k : Value) (a : Int) : Prop :=
  match q with
  | none => a = -1
  | some (x, r) => ∃ j : Nat, a = j ∧ j ≤ l.length ∧ r = l.drop j ∧ Nd (fun b => B ≤ b) W x s n k
theorem RdQ.alloc {l : List K} {q : Option (Ie.E × List K)} {B : Nat} {W : World} {s : ByteArray} {n : Int} {k : Value} {a : Int} (h : RdQ l q B W s n k a) (o : Obj) : RdQ l q B (W.alloc o) s n k a := by
  cases q with
  | none => exact h
  | some p =>
    obtain ⟨j, h1, h2, h3, hN⟩ := h
    exact ⟨j, h1, h2, h3, hN.alloc _⟩
/-- A choice of what was read. -/
theorem ask_end {w w3 : World} {l : List K} {R : Nat} {x y z : Ie.E} {s1 s2 s3 : ByteArray} {n1 n2 n3 : Int} {a1 a2 a3 : Option Addr} {k1 k2 k3 j : Nat} (hB : Below w.heap.size w w3) (hlo : w.heap.size ≤ R) (hj : j ≤ l.length) 
    (hx : Nd (fun b => w.heap.size ≤ b ∧ b ≠ R) w3 x s1 n1 (.slice a1 k1 k1)) (hy : Nd (fun b => w.heap.size ≤ b ∧ b ≠ R) w3 y s2 n2 (.slice a2 k2 k2)) (hz : Nd (fun b => w.heap.size ≤ b ∧ b ≠ R) w3 z s3 n3 (.slice a3 k3 k3)) :
    RpPost l (some (.ask x y z, l.drop j)) w (.returned (.tuple #[.agg #[.string Ie.sAsk, .int .i64 0, .slice (some ⟨w3.heap.size + 1, 0, none⟩) 3 3], .int .i64 ((j : Nat) : Int)])) (((set3 w3 R Ie.sAsk 0 (.slice (some ⟨w3.heap.size + 1, 0, none⟩) 3 3)).alloc (.cells #[.string s3, .int .i64 n3, .slice a3 k3 k3] 57)).alloc (.cells #[.string s1, .int .i64 n1, .slice a1 k1 k1, .string s2, .int .i64 n2, .slice a2 k2 k2, .string s3, .int .i64 n3, .slice a3 k3 k3] 57)) := by
  obtain ⟨U, hU⟩ : ∃ U, U = (set3 w3 R Ie.sAsk 0 (.slice (some ⟨w3.heap.size + 1, 0, none⟩) 3 3)).alloc (.cells #[.string s3, .int .i64 n3, .slice a3 k3 k3] 57) := ⟨_, rfl⟩
  have h1 := set3_below hB R Ie.sAsk 0 (.slice (some ⟨w3.heap.size + 1, 0, none⟩) 3 3) hlo
  have hs := h1.size
  have hs3 := hB.size
  have hUs : U.heap.size = w3.heap.size + 1 := by rw [hU, alloc_size, set3_size]
  have hUb : Below w.heap.size w U := by rw [hU]; exact h1.alloc hs _
  have kp : ∀ {x : Ie.E} {s : ByteArray} {n : Int} {k : Value}, Nd (fun b => w.heap.size ≤ b ∧ b ≠ R) w3 x s n k → ∀ o, Nd (fun b => w.heap.size ≤ b) (U.alloc o) x s n k := fun h o => by
    refine Nd.alloc ?_ _
    rw [hU]
    exact ((h.set3 (R := R) (fun b hb _ => hb.2) _ _ _).mono fun b hb _ => hb.1).alloc _
  rw [← hU]
  refine ⟨Ie.sAsk, 0, _, 3, j, rfl, hUb.alloc (by omega) _, j, rfl, hj, rfl, ?_⟩
  refine ⟨rfl, rfl, w3.heap.size + 1, s1, n1, .slice a1 k1 k1, s2, n2, .slice a2 k2 k2, s3, n3, .slice a3 k3 k3, rfl, (by omega : w.heap.size ≤ w3.heap.size + 1), ?_, kp hx _, ?_, kp hy _, ?_, kp hz _⟩
  · rw [← hUs]; exact c3_at _ _ _ _ _ _ rfl rfl rfl
  · rw [← hUs]; exact c3_at _ _ _ _ _ _ rfl rfl rfl
  · rw [← hUs]; exact c3_at _ _ _ _ _ _ rfl rfl rfl

set_option maxRecDepth 100000 in
set_option maxHeartbeats 8000000 in
theorem rd_ch (w W : World) (l : List K) (hT : Tb l) (v : Value) (R X d j : Nat) (g : Int) (x : Ie.E) (s1 : ByteArray) (n1 : Int) (a1 : Option Addr) (k1 : Nat) (h : LpW w l v R X x s1 n1 a1 k1 j W) (hg : g = 61 - ((d + 1 : Nat) : Int)) (hd : d ≤ 60) (ih : RdC d 0) (c1 c4 c5 c6 c7 c9 c12 c13 c14 c15 c16 c17 c18 c19 c20 c21 c22 c23 c24 c25 c26 c27 c28 c29 c30 c31 c32 c33 c34 c35 c36 c37 c38 c39 c40 c41 c42 c43 c44 c45 c46 c47 c48 c49 c50 c51 c52 c53 c54 c55 c56 c57 c58 c59 c60 c61 c62 c63 c64 c65 c66 c67 c68 c69 c70 c71 c72 c73 c74 c75 c76 c77 c78 c79 c80 c81 c82 c83 c84 c85 c86 c87 c88 c89 c90 c91 c92 c93 c94 c95 c96 c97 c98 c99 c100 c101 c102 c103 c104 c105 c106 c107 c108 c109 c110 c111 c112 c113 c114 c115 c116 c117 c118 c119 c120 c121 c122 c123 c124 c125 c126 c127 c128 c129 c130 c131 c132 c133 c134 c135 c136 c137 c138 : Value) :
    Code.wp Tryz.prog (secs 5 rdBody) (bodyPost Tryz.prog Tryz.f28 (RpPost l (Ie.chS (Ie.expr d) x (l.drop j)) w)) ⟨#[v, c1, .int .i64 ((0 : Nat) : Int), .int .i64 g, c4, c5, c6, c7, .pointer (some ⟨R, 0, none⟩), c9, .pointer (some ⟨X, 0, none⟩), .int .i64 ((j : Nat) : Int), c12, c13, c14, c15, c16, c17, c18, c19, c20, c21, c22, c23, c24, c25, c26, c27, c28, c29, c30, c31, c32, c33, c34, c35, c36, c37, c38, c39, c40, c41, c42, c43, c44, c45, c46, c47, c48, c49, c50, c51, c52, c53, c54, c55, c56, c57, c58, c59, c60, c61, c62, c63, c64, c65, c66, c67, c68, c69, c70, c71, c72, c73, c74, c75, c76, c77, c78, c79, c80, c81, c82, c83, c84, c85, c86, c87, c88, c89, c90, c91, c92, c93, c94, c95, c96, c97, c98, c99, c100, c101, c102, c103, c104, c105, c106, c107, c108, c109, c110, c111, c112, c113, c114, c115, c116, c117, c118, c119, c120, c121, c122, c123, c124, c125, c126, c127, c128, c129, c130, c131, c132, c133, c134, c135, c136, c137, c138], []⟩ W := by
  have hl1 := hT.1
  have hj := h.jl
  have hg0 : 0 ≤ g := by omega
  have hg1 : g ≤ 60 := by omega
  have IS : Hid (Calls Tryz.prog 42 #[v, .int .i64 ((j : Nat) : Int), .string ⟨#[63]⟩] W fun e w' => e = .returned (.bool (Ie.isAt l j Ie.sAsk)) ∧ w' = W) := Lib.hid (ris9_any v l j Ie.sAsk W h.ks hT.1)
  have IS2 : Hid (∀ W j, Ks W v l → Calls Tryz.prog 42 #[v, .int .i64 ((j : Nat) : Int), .string ⟨#[58]⟩] W fun e w' => e = .returned (.bool (Ie.isAt l j Ie.sCol)) ∧ w' = W) := Lib.hid fun W j hv => ris9_any v l j Ie.sCol W hv hT.1
  have IH : Hid (∀ (W : World) (j : Nat), Gv W → Ks W v l → j ≤ 1000000 → Calls Tryz.prog 28 #[v, .int .i64 ((j : Int) + 1), .int .i64 0, .int .i64 (g + 1)] W (RpPost l (Ie.expr d (l.drop (j + 1))) W)) := Lib.hid fun W j hG hv hj => ih l v (j + 1) (g + 1) W hG hv hT (by omega) (by omega)
  have HW := Lib.hid h
  obtain ⟨S, hS⟩ : ∃ S, S = Ie.chS (Ie.expr d) x (l.drop j) := ⟨_, rfl⟩
  rw [← hS]
  have HS := Lib.hid hS
  obtain ⟨P, hP⟩ : ∃ P, P = RpPost l S w := ⟨_, rfl⟩
  rw [← hP]
  have HP := Lib.hid hP
  obtain ⟨aa, haa⟩ : ∃ aa, aa = Ie.isAt l j Ie.sAsk := ⟨_, rfl⟩
  rw [← haa] at IS
  obtain ⟨r0, r1, r2⟩ := h.r.c3
  obtain ⟨x0, x1, x2⟩ := h.own.c3
  have f0 := h.r.fr 0
  have f1 := h.r.fr 1
  have f2 := h.r.fr 2
  have lR := h.r.lt
  have lX := h.own.lt
  have hne := h.ne
  clear h ih hS hP hT hg
  cases aa with
  | false =>
    have HE : Hid (P (.returned (.tuple #[.agg #[.string s1, .int .i64 n1, .slice a1 k1 k1], .int .i64 ((j : Nat) : Int)])) (set3 W R s1 n1 (.slice a1 k1 k1))) := Lib.hid (by rw [HP.out, HS.out, Ie.chS_no haa.symm]; exact lp_end HW.out)
    have HN := Lib.hid (set3_nh HW.out.r s1 n1 (.slice a1 k1 k1))
    clear haa
    refine wp_sec 5 rdBody rfl ?_
    conv => arg 2; whnf
    go_wp2_with fail
    refine IS.out.mono ?_
    rintro e w1 ⟨rfl, rfl⟩
    go_wp2_with fail
    exact bodyPost_ret (ret_rd HN.out.c3 rfl rfl) rfl HE.out
  | true =>
    obtain ⟨hjl, hch⟩ := Ie.chS_yes (e := Ie.expr d) (x := x) haa.symm
    have HCH := Lib.hid hch
    clear haa hch
    have HR := Lib.hid (IH.out W j HW.out.gv HW.out.ks (by omega))
    obtain ⟨q, hq⟩ : ∃ q, q = Ie.expr d (l.drop (j + 1)) := ⟨_, rfl⟩
    rw [← hq] at HR HCH
    clear hq
    refine wp_sec 5 rdBody rfl ?_
    conv => arg 2; whnf
    go_wp2_with fail
    refine IS.out.mono ?_
    rintro e w1 ⟨rfl, rfl⟩
    go_wp2_with fail
    refine HR.out.mono ?_
    rintro e w2 ⟨s2, n2, a2, k2, a, rfl, hB2, hqq⟩
    clear r0 r1 r2 x0 x1 x2 f0 f1 f2 lR lX
    have hBV : Below w1.heap.size w1 (w2.alloc (.cells #[.string s2, .int .i64 n2, .slice a2 k2 k2] 57)) := Below.then hB2 (below_alloc w2 _)
    have hYR : w2.heap.size ≠ R := by have := (HW.out.r.below hB2).lt; omega
    have hYX : w2.heap.size ≠ X := by have := (HW.out.own.below hB2).lt; omega
    have hYw : w1.heap.size ≤ w2.heap.size := hB2.size
    have HW2 := Lib.hid (HW.out.below hB2)
    have HWV := Lib.hid (HW.out.below hBV)
    have HYV := Lib.hid (Nh.new w2 s2 n2 (.slice a2 k2 k2))
    have HNV := Lib.hid ((set3_nh HW2.out.r s1 n1 (.slice a1 k1 k1)).below (below_alloc _ (.cells #[.string s2, .int .i64 n2, .slice a2 k2 k2] 57)))
    have hb3 := set3_below HW2.out.bl R s1 n1 (.slice a1 k1 k1) HW2.out.lo
    have HB3 := Lib.hid (hb3.alloc hb3.size (.cells #[.string s2, .int .i64 n2, .slice a2 k2 k2] 57))
    have HWB := Lib.hid hBV
    have HQV : Hid (RdQ l q w1.heap.size (w2.alloc (.cells #[.string s2, .int .i64 n2, .slice a2 k2 k2] 57)) s2 n2 (.slice a2 k2 k2) a) := Lib.hid (RdQ.alloc hqq _)
    clear hqq hBV hB2 hb3
    obtain ⟨r0, r1, r2⟩ := HW2.out.r.c3
    obtain ⟨x0, x1, x2⟩ := HW2.out.own.c3
    have f0 := HW2.out.r.fr 0
    have f1 := HW2.out.r.fr 1
    have f2 := HW2.out.r.fr 2
    have lR := HW2.out.r.lt
    have lX := HW2.out.own.lt
    cases q with
    | none =>
      obtain rfl : a = -1 := HQV.out
      have HE : Hid (P (.returned (.tuple #[.agg #[.string s1, .int .i64 n1, .slice a1 k1 k1], .int .i64 (-1)])) ((set3 w2 R s1 n1 (.slice a1 k1 k1)).alloc (.cells #[.string s2, .int .i64 n2, .slice a2 k2 k2] 57))) := Lib.hid (by rw [HP.out, HS.out, HCH.out]; exact no_end HB3.out)
      go_wp2_with fail
      exact bodyPost_ret (ret_rd HNV.out.c3 rfl rfl) rfl HE.out
    | some p =>
      obtain ⟨y, r⟩ := p
      obtain ⟨j2, rfl, hj2, rfl, hNy⟩ := HQV.out
      have HNY := Lib.hid hNy
      clear hNy
      have IJ := Lib.hid (IS2.out (w2.alloc (.cells #[.string s2, .int .i64 n2, .slice a2 k2 k2] 57)) j2 HWV.out.ks)
      rw [Ie.shut_at] at HCH
      obtain ⟨bb, hbb⟩ : ∃ bb, bb = Ie.isAt l j2 Ie.sCol := ⟨_, rfl⟩
      rw [← hbb] at IJ HCH
      cases bb with
      | false =>
        have HE : Hid (P (.returned (.tuple #[.agg #[.string s1, .int .i64 n1, .slice a1 k1 k1], .int .i64 (-1)])) ((set3 w2 R s1 n1 (.slice a1 k1 k1)).alloc (.cells #[.string s2, .int .i64 n2, .slice a2 k2 k2] 57))) := Lib.hid (by rw [HP.out, HS.out, HCH.out]; exact no_end HB3.out)
        clear hbb
        go_wp2_with fail
        refine IJ.out.mono ?_
        rintro e w3 ⟨rfl, rfl⟩
        go_wp2_with fail
        exact bodyPost_ret (ret_rd HNV.out.c3 rfl rfl) rfl HE.out
      | true =>
        have hjl2 := isAt_lt hbb.symm
        clear hbb
        have HR3 := Lib.hid (IH.out (w2.alloc (.cells #[.string s2, .int .i64 n2, .slice a2 k2 k2] 57)) j2 HWV.out.gv HWV.out.ks (by omega))
        obtain ⟨q3, hq3⟩ : ∃ q, q = Ie.expr d (l.drop (j2 + 1)) := ⟨_, rfl⟩
        have HCH2 : Hid (Ie.chS (Ie.expr d) x (l.drop j) = Ie.askS x y q3) := Lib.hid (by rw [hq3]; exact HCH.out)
        rw [← hq3] at HR3
        clear hq3 HCH
        go_wp2_with fail
        refine IJ.out.mono ?_
        rintro e w3 ⟨rfl, rfl⟩
        go_wp2_with fail
        refine HR3.out.mono ?_
        rintro e w4 ⟨s3, n3, a3, k3, a, rfl, hB4, hq4⟩
        clear r0 r1 r2 x0 x1 x2 f0 f1 f2 lR lX
        have HW4 := Lib.hid (HWV.out.below hB4)
        have hy4 := HYV.out.below hB4
        obtain ⟨r0, r1, r2⟩ := HW4.out.r.c3
        obtain ⟨x0, x1, x2⟩ := HW4.out.own.c3
        obtain ⟨y0, y1, y2⟩ := hy4.c3
        have f0 := HW4.out.r.fr 0
        have f1 := HW4.out.r.fr 1
        have f2 := HW4.out.r.fr 2
        have lR := HW4.out.r.lt
        have lX := HW4.out.own.lt
        have lY := hy4.lt
        obtain ⟨K, hK⟩ : ∃ K, K = w4.heap.size + 1 := ⟨_, rfl⟩
        have HN4 := Lib.hid (fun o o' => ((set3_nh HW4.out.r Ie.sAsk 0 (.slice (some ⟨w4.heap.size + 1, 0, none⟩) 3 3)).below (below_alloc _ o)).below (below_alloc _ o'))
        have HE : Hid (P (.returned (.tuple #[.agg #[.string Ie.sAsk, .int .i64 0, .slice (some ⟨w4.heap.size + 1, 0, none⟩) 3 3], .int .i64 a])) (((set3 w4 R Ie.sAsk 0 (.slice (some ⟨w4.heap.size + 1, 0, none⟩) 3 3)).alloc (.cells #[.string s3, .int .i64 n3, .slice a3 k3 k3] 57)).alloc (.cells #[.string s1, .int .i64 n1, .slice a1 k1 k1, .string s2, .int .i64 n2, .slice a2 k2 k2, .string s3, .int .i64 n3, .slice a3 k3 k3] 57))) := Lib.hid (by
          rw [HP.out, HS.out, HCH2.out]
          cases q3 with
          | none =>
            obtain rfl : a = -1 := hq4
            have h1 := set3_below HW4.out.bl R Ie.sAsk 0 (.slice (some ⟨w4.heap.size + 1, 0, none⟩) 3 3) HW4.out.lo
            have hs := h1.size
            exact no_end ((h1.alloc hs _).alloc (by rw [alloc_size]; omega) _)
          | some p =>
            obtain ⟨z, r3⟩ := p
            obtain ⟨j4, rfl, hj4, rfl, hNz⟩ := hq4
            have hsz := HW.out.bl.size
            have lR1 := HW.out.r.lt
            have hBs := HWV.out.bl.size
            have lRV := HWV.out.r.lt
            have lV : w1.heap.size ≤ (w2.alloc (.cells #[.string s2, .int .i64 n2, .slice a2 k2 k2] 57)).heap.size := HWB.out.size
            exact ask_end HW4.out.bl HW4.out.lo hj4 (HW4.out.nd.mono fun b hb _ => ⟨hb.1, hb.2.1⟩) ((HNY.out.below hB4).mono fun b hb _ => by have : w1.heap.size ≤ b := hb; omega) (hNz.mono fun b hb _ => by have : (w2.alloc (.cells #[.string s2, .int .i64 n2, .slice a2 k2 k2] 57)).heap.size ≤ b := hb; omega))
        clear hq4 hB4 hy4 hK K
        go_wp2_with fail
        exact bodyPost_ret (ret_rd (HN4.out _ _).c3 rfl rfl) rfl HE.out
end Go.Proofs.YtognifnalfjdgaaGreatDoor
