/- What is proved: reading signs between two, by the document (read). (and what stands with it) -/
import Derived.Test.YtognifnalfjdgaaGreatDoorQm
import Derived.Test.YtognifnalfjdgaaGreatDoorQk
import Derived.Test.YtognifnalfjdgaaGreatDoorQi

/- What is proved: reading signs between two, by the document (read). -/
namespace Go.Proofs.YtognifnalfjdgaaGreatDoor
open Go.RowKit Go.Shelf

set_option maxRecDepth 100000 in
set_option maxHeartbeats 8000000 in
theorem rd_5n (W : World) (v : Value) (R X m j : Nat) (g : Int) (hm : 1 ≤ m) (hm2 : m ≤ 10) (Q : Ending → World → Prop) (c1 c4 c5 c6 c7 c9 c12 c13 c14 c15 c16 c17 c18 c19 c20 c21 c22 c23 c24 c25 c26 c27 c28 c29 c30 c31 c32 c33 c34 c35 c36 c37 c38 c39 c40 c41 c42 c43 c44 c45 c46 c47 c48 c49 c50 c51 c52 c53 c54 c55 c56 c57 c58 c59 c60 c61 c62 c63 c64 c65 c66 c67 c68 c69 c70 c71 c72 c73 c74 c75 c76 c77 c78 c79 c80 c81 c82 c83 c84 c85 c86 c87 c88 c89 c90 c91 c92 c93 c94 c95 c96 c97 c98 c99 c100 c101 c102 c103 c104 c105 c106 c107 c108 c109 c110 c111 c112 c113 c114 c115 c116 c117 c118 c119 c120 c121 c122 c123 c124 c125 c126 c127 c128 c129 c130 c131 c132 c133 c134 c135 c136 c137 c138 : Value)
    (hc : ∀ (c1 c4 c5 c6 c7 c9 c12 c13 c14 c15 c16 c17 c18 c19 c20 c21 c22 c23 c24 c25 c26 c27 c28 c29 c30 c31 c32 c33 c34 c35 c36 c37 c38 c39 c40 c41 c42 c43 c44 c45 c46 c47 c48 c49 c50 c51 c52 c53 c54 c55 c56 c57 c58 c59 c60 c61 c62 c63 c64 c65 c66 c67 c68 c69 c70 c71 c72 c73 c74 c75 c76 c77 c78 c79 c80 c81 c82 c83 c84 c85 c86 c87 c88 c89 c90 c91 c92 c93 c94 c95 c96 c97 c98 c99 c100 c101 c102 c103 c104 c105 c106 c107 c108 c109 c110 c111 c112 c113 c114 c115 c116 c117 c118 c119 c120 c121 c122 c123 c124 c125 c126 c127 c128 c129 c130 c131 c132 c133 c134 c135 c136 c137 c138 : Value), Code.wp Tryz.prog (secs 6 rdBody) (bodyPost Tryz.prog Tryz.f28 Q) ⟨#[v, c1, .int .i64 m, .int .i64 g, c4, c5, c6, c7, .pointer (some ⟨R, 0, none⟩), c9, .pointer (some ⟨X, 0, none⟩), .int .i64 ((j : Nat) : Int), c12, c13, c14, c15, c16, c17, c18, c19, c20, c21, c22, c23, c24, c25, c26, c27, c28, c29, c30, c31, c32, c33, c34, c35, c36, c37, c38, c39, c40, c41, c42, c43, c44, c45, c46, c47, c48, c49, c50, c51, c52, c53, c54, c55, c56, c57, c58, c59, c60, c61, c62, c63, c64, c65, c66, c67, c68, c69, c70, c71, c72, c73, c74, c75, c76, c77, c78, c79, c80, c81, c82, c83, c84, c85, c86, c87, c88, c89, c90, c91, c92, c93, c94, c95, c96, c97, c98, c99, c100, c101, c102, c103, c104, c105, c106, c107, c108, c109, c110, c111, c112, c113, c114, c115, c116, c117, c118, c119, c120, c121, c122, c123, c124, c125, c126, c127, c128, c129, c130, c131, c132, c133, c134, c135, c136, c137, c138], []⟩ W) :
    Code.wp Tryz.prog (secs 5 rdBody) (bodyPost Tryz.prog Tryz.f28 Q) ⟨#[v, c1, .int .i64 m, .int .i64 g, c4, c5, c6, c7, .pointer (some ⟨R, 0, none⟩), c9, .pointer (some ⟨X, 0, none⟩), .int .i64 ((j : Nat) : Int), c12, c13, c14, c15, c16, c17, c18, c19, c20, c21, c22, c23, c24, c25, c26, c27, c28, c29, c30, c31, c32, c33, c34, c35, c36, c37, c38, c39, c40, c41, c42, c43, c44, c45, c46, c47, c48, c49, c50, c51, c52, c53, c54, c55, c56, c57, c58, c59, c60, c61, c62, c63, c64, c65, c66, c67, c68, c69, c70, c71, c72, c73, c74, c75, c76, c77, c78, c79, c80, c81, c82, c83, c84, c85, c86, c87, c88, c89, c90, c91, c92, c93, c94, c95, c96, c97, c98, c99, c100, c101, c102, c103, c104, c105, c106, c107, c108, c109, c110, c111, c112, c113, c114, c115, c116, c117, c118, c119, c120, c121, c122, c123, c124, c125, c126, c127, c128, c129, c130, c131, c132, c133, c134, c135, c136, c137, c138], []⟩ W := by
  have HC := Lib.hid hc
  have z1 : ¬ (m : Int) = 0 := by omega
  have z2 : ¬ m = 0 := by omega
  clear hc
  refine wp_sec 5 rdBody rfl ?_
  conv => arg 2; whnf
  go_wp2_with fail
  exact HC.out _ _ _ _ _ _ _ _ _ _ _ _ _ _ _ _ _ _ _ _ _ _ _ _ _ _ _ _ _ _ _ _ _ _ _ _ _ _ _ _ _ _ _ _ _ _ _ _ _ _ _ _ _ _ _ _ _ _ _ _ _ _ _ _ _ _ _ _ _ _ _ _ _ _ _ _ _ _ _ _ _ _ _ _ _ _ _ _ _ _ _ _ _ _ _ _ _ _ _ _ _ _ _ _ _ _ _ _ _ _ _ _ _ _ _ _ _ _ _ _ _ _ _ _ _ _ _ _ _ _ _ _ _

/-- One more operand. -/
theorem LpW.more {w W w2 : World} {l : List K} {v : Value} {R X : Nat} {x y : Ie.E} {s s2 : ByteArray} {n n2 : Int} {ad a2 : Option Addr} {k k2 j j2 : Nat} {t : K} (h : LpW w l v R X x s n ad k j W) (hB : Below W.heap.size W w2) (hj : j2 ≤ l.length) (ht : Ie.lvS t.text ≠ 0) (hN : Nd (fun b => W.heap.size ≤ b) w2 y s2 n2 (.slice a2 k2 k2)) :
    LpW w l v R X (.bin t.text x y) t.text 0 (some ⟨w2.heap.size + 1, 0, none⟩) 2 j2 (((set3 w2 X t.text 0 (.slice (some ⟨w2.heap.size + 1, 0, none⟩) 2 2)).alloc (.cells #[.string s2, .int .i64 n2, .slice a2 k2 k2] 57)).alloc (.cells #[.string s, .int .i64 n, .slice ad k k, .string s2, .int .i64 n2, .slice a2 k2 k2] 57)) := by
  obtain ⟨U, hU⟩ : ∃ U, U = (set3 w2 X t.text 0 (.slice (some ⟨w2.heap.size + 1, 0, none⟩) 2 2)).alloc (.cells #[.string s2, .int .i64 n2, .slice a2 k2 k2] 57) := ⟨_, rfl⟩
  have h2 := h.below hB
  have hs := h.bl.size
  have hs2 := hB.size
  have lR := h.r.lt
  have lX := h.own.lt
  have hUs : U.heap.size = w2.heap.size + 1 := by rw [hU, alloc_size, set3_size]
  have b1 := set3_below h2.bl X t.text 0 (.slice (some ⟨w2.heap.size + 1, 0, none⟩) 2 2) h.lx
  have hUb : Below w.heap.size w U := by rw [hU]; exact b1.alloc b1.size _
  have hr : Nh U R ⟨#[]⟩ 0 (.slice none 0 0) := by
    have h1 : Nh (set3 w2 X t.text 0 (.slice (some ⟨w2.heap.size + 1, 0, none⟩) 2 2)) R ⟨#[]⟩ 0 (.slice none 0 0) := (set3_block w2 X _ _ _ R h.ne.symm).trans h2.r
    rw [hU]; exact h1.below (below_alloc _ _)
  have hx : Nh U X t.text 0 (.slice (some ⟨w2.heap.size + 1, 0, none⟩) 2 2) := by
    rw [hU]; exact (set3_nh h2.own _ _ _).below (below_alloc _ _)
  have kp : ∀ {x : Ie.E} {s : ByteArray} {n : Int} {k : Value}, Nd (fun b => w.heap.size ≤ b ∧ b ≠ R ∧ b ≠ X) w2 x s n k → ∀ o, Nd (fun b => w.heap.size ≤ b ∧ b ≠ R ∧ b ≠ X) (U.alloc o) x s n k := fun h o => by
    refine Nd.alloc ?_ _
    rw [hU]
    exact (h.set3 (R := X) (fun b hb _ => hb.2.2) _ _ _).alloc _
  rw [← hU]
  have hA := below_alloc U (.cells #[.string s, .int .i64 n, .slice ad k k, .string s2, .int .i64 n2, .slice a2 k2 k2] 57)
  refine ⟨hUb.alloc (by omega) _, h.lo, h.lx, h.ne, hr.below hA, hx.below hA, ?_, h.gw, h.kw, hj⟩
  refine ⟨rfl, rfl, ht, w2.heap.size + 1, s, n, .slice ad k k, s2, n2, .slice a2 k2 k2, rfl, ⟨by omega, by omega, by omega⟩, ?_, kp h2.nd _, ?_, kp (hN.mono fun b hb _ => by have : W.heap.size ≤ b := hb; exact ⟨by omega, by omega, by omega⟩) _⟩
  · rw [← hUs]; exact c3_at _ _ _ _ _ _ rfl rfl rfl
  · rw [← hUs]; exact c3_at _ _ _ _ _ _ rfl rfl rfl

theorem Ie.more_stop {next : Ie.Rd} {m f : Nat} {x : Ie.E} {l : List K} {j : Nat} (hf : (l.drop j).length ≤ f) (h : ∀ t, l[j]? = some t → Ie.lvOf t ≠ m) : Ie.more next m f x (l.drop j) = some (x, l.drop j) := by
  cases hl : l[j]? with
  | none =>
    rw [List.drop_eq_nil_of_le (by rw [List.getElem?_eq_none_iff] at hl; exact hl)]
    cases f <;> rfl
  | some t =>
    rw [drop_of hl] at hf ⊢
    cases f with
    | zero => simp at hf
    | succ f =>
      show (if Ie.lvOf t = m then _ else _) = _
      rw [if_neg (h t hl)]
/-- The sign of this level that stands there; empty: none. -/
def Ie.atLv (l : List K) (i m : Nat) : ByteArray := match l[i]? with | none => ⟨#[]⟩ | some t => if Ie.lvOf t = m then t.text else ⟨#[]⟩
theorem Ie.found_at (l : List K) (i m : Nat) (h1 : 1 ≤ m) (h2 : m ≤ 10) : Ie.found l i (Ie.sgl m) = Ie.atLv l i m := Ie.found_lv l i m h1 h2
/-- What holds between two rounds. -/
def LpR (w : World) (l : List K) (v : Value) (R X m N : Nat) (next : Ie.Rd) (S : Option (Ie.E × List K)) (j : Nat) (W : World) : Prop :=
  ∃ (x : Ie.E) (s : ByteArray) (n : Int) (ad : Option Addr) (k f : Nat), LpW w l v R X x s n ad k j W ∧ S = Ie.more next m f x (l.drop j) ∧ N - j ≤ f
set_option maxRecDepth 100000 in
set_option maxHeartbeats 8000000 in
theorem rd_lp (w W0 : World) (l : List K) (hT : Tb l) (v : Value) (R X _ m j0 : Nat) (g : Int) (next : Ie.Rd) (hdec : Ie.Dec next) (S : Option (Ie.E × List K)) (h0 : LpR w l v R X m l.length next S j0 W0) (_ : 0 ≤ g) (_ : g ≤ 60) (hm : 1 ≤ m) (hm2 : m ≤ 10)
    (ih : ∀ (W : World) (j : Nat), Gv W → Ks W v l → j ≤ 1000000 → Calls Tryz.prog 28 #[v, .int .i64 ((j : Int) + 1), .int .i64 ((m : Int) + 1), .int .i64 g] W (RpPost l (next (l.drop (j + 1))) W)) (c1 c4 c5 c6 c7 c9 c12 c13 c14 c15 c16 c17 c18 c19 c20 c21 c22 c23 c24 c25 c26 c27 c28 c29 c30 c31 c32 c33 c34 c35 c36 c37 c38 c39 c40 c41 c42 c43 c44 c45 c46 c47 c48 c49 c50 c51 c52 c53 c54 c55 c56 c57 c58 c59 c60 c61 c62 c63 c64 c65 c66 c67 c68 c69 c70 c71 c72 c73 c74 c75 c76 c77 c78 c79 c80 c81 c82 c83 c84 c85 c86 c87 c88 c89 c90 c91 c92 c93 c94 c95 c96 c97 c98 c99 c100 c101 c102 c103 c104 c105 c106 c107 c108 c109 c110 c111 c112 c113 c114 c115 c116 c117 c118 c119 c120 c121 c122 c123 c124 c125 c126 c127 c128 c129 c130 c131 c132 c133 c134 c135 c136 c137 c138 : Value) :
    Code.wp Tryz.prog (secs 6 rdBody) (bodyPost Tryz.prog Tryz.f28 (RpPost l S w)) ⟨#[v, c1, .int .i64 m, .int .i64 g, c4, c5, c6, c7, .pointer (some ⟨R, 0, none⟩), c9, .pointer (some ⟨X, 0, none⟩), .int .i64 ((j0 : Nat) : Int), c12, c13, c14, c15, c16, c17, c18, c19, c20, c21, c22, c23, c24, c25, c26, c27, c28, c29, c30, c31, c32, c33, c34, c35, c36, c37, c38, c39, c40, c41, c42, c43, c44, c45, c46, c47, c48, c49, c50, c51, c52, c53, c54, c55, c56, c57, c58, c59, c60, c61, c62, c63, c64, c65, c66, c67, c68, c69, c70, c71, c72, c73, c74, c75, c76, c77, c78, c79, c80, c81, c82, c83, c84, c85, c86, c87, c88, c89, c90, c91, c92, c93, c94, c95, c96, c97, c98, c99, c100, c101, c102, c103, c104, c105, c106, c107, c108, c109, c110, c111, c112, c113, c114, c115, c116, c117, c118, c119, c120, c121, c122, c123, c124, c125, c126, c127, c128, c129, c130, c131, c132, c133, c134, c135, c136, c137, c138], []⟩ W0 := by
  have hl1 := hT.1
  obtain ⟨N, hN⟩ : ∃ N, N = l.length := ⟨_, rfl⟩
  rw [← hN] at hl1 h0
  have HN := Lib.hid hN
  have IH := Lib.hid ih
  have H0 := Lib.hid h0
  have HD := Lib.hid hdec
  have HT := Lib.hid hT
  have SG : Hid (∀ W, Calls Tryz.prog 58 #[.int .i64 m] W fun e W' => ∃ v, e = .returned v ∧ Sts W' v (Ie.sgl m) ∧ Below W.heap.size W W') := Lib.hid fun W => signs9_any m hm hm2 W
  obtain ⟨P, hP⟩ : ∃ P, P = RpPost l S w := ⟨_, rfl⟩
  rw [← hP]
  have HP := Lib.hid hP
  have HM : Hid (1 ≤ m ∧ m ≤ 10) := Lib.hid ⟨hm, hm2⟩
  have hm9 : m ≤ 10 := hm2
  clear hT hN ih h0 hdec hP hm hm2

  conv => arg 2; whnf
  go_wp2_with fail
  go_loopw [11] (fun i wr => ∃ j : Nat, i = .int .i64 j ∧ LpR w l v R X m N next S j wr) (fun i _ => N - (intOf i).toNat)
  case atStart => exact ⟨j0, rfl, H0.out⟩
  case round =>
    obtain ⟨j, rfl, x, s1, n1, a1, k1, f, hL, hS, hf⟩ := hrel
    obtain ⟨V, hV⟩ : ∃ V, V = wr := ⟨_, rfl⟩
    rw [← hV] at hL ⊢
    clear hV
    have hjN : j ≤ N := by rw [HN.out]; exact hL.jl
    have HL := Lib.hid hL
    have HS := Lib.hid hS
    clear hL hS
    go_wp2_with fail
    refine (SG.out _).mono ?_
    rintro e w2 ⟨va, rfl, hva, hB2⟩
    have HVA := Lib.hid hva
    have HL2 := Lib.hid (HL.out.below hB2)
    obtain ⟨sad, scap, rfl, sc1, sc2, -⟩ := id hva
    obtain ⟨c9, hc9⟩ : ∃ c, c = (Ie.sgl m).length := ⟨_, rfl⟩
    rw [← hc9] at sc1 HVA ⊢
    have HC9 := Lib.hid hc9
    have hc100 : c9 ≤ 100 := by rw [hc9]; unfold Ie.sgl; split <;> decide
    have IS : Hid (∀ s, Calls Tryz.prog 42 #[v, .int .i64 ((j : Nat) : Int), .string s] w2 fun e w' => e = .returned (.bool (Ie.isAt l j s)) ∧ w' = w2) := Lib.hid fun s => ris9_any v l j s w2 HL2.out.ks (by rw [← HN.out]; exact hl1)
    clear hva hB2 hc9 sc2
    have hle : c9 ≤ c9 := Nat.le_refl _
    go_wp2_with fail
    go_loop [18, 20] (fun a b => ∃ c : Nat, b = .int .i64 c ∧ c ≤ c9 ∧ a = .string (Ie.found l j ((Ie.sgl m).take c))) (fun _ b => c9 - (intOf b).toNat)
    case atStart => exact ⟨0, rfl, Nat.zero_le _, rfl⟩
    case round =>
      obtain ⟨c, rfl, hc, rfl⟩ := hrel
      by_cases hlt : c < c9
      · obtain ⟨s, hs⟩ : ∃ s, (Ie.sgl m)[c]? = some s := ⟨_, List.getElem?_eq_getElem (by rw [← HC9.out]; exact hlt)⟩
        have htk : Ie.found l j ((Ie.sgl m).take (c + 1)) = if Ie.isAt l j s then s else Ie.found l j ((Ie.sgl m).take c) := by
          obtain ⟨h1, h2⟩ := List.getElem?_eq_some_iff.1 hs
          rw [List.take_succ_eq_append_getElem h1, h2, Ie.found_snoc]
        obtain ⟨ad', cap', e, -, -, h3⟩ := HVA.out
        injection e with e1 e2 e3
        subst e1
        obtain ⟨ng, no, rfl, cc⟩ := h3 c s hs
        obtain ⟨fd, hfd⟩ : ∃ fd, fd = Ie.found l j ((Ie.sgl m).take c) := ⟨_, rfl⟩
        rw [← hfd] at htk ⊢
        obtain ⟨bb, hbb⟩ : ∃ bb, bb = Ie.isAt l j s := ⟨_, rfl⟩
        have IJ := Lib.hid (IS.out s)
        rw [← hbb] at IJ htk
        have zi0 : (0 : Int) ≤ c := by omega
        have zi1 : (c : Int) < c9 := by omega
        clear h3 e2 e3 hs hbb hfd
        cases bb with
        | true =>
          rw [if_pos rfl] at htk
          have HTK := Lib.hid htk
          clear htk
          go_wp2_with fail
          refine IJ.out.mono ?_
          rintro e w3 ⟨rfl, rfl⟩
          go_wp2_with fail
          go_round
          case rel => exact ⟨c + 1, by go_num, by omega, by rw [HTK.out]⟩
          case measure => simp [intOf]; omega
        | false =>
          rw [if_neg (by simp)] at htk
          have HTK := Lib.hid htk
          clear htk
          go_wp2_with fail
          refine IJ.out.mono ?_
          rintro e w3 ⟨rfl, rfl⟩
          go_wp2_with fail
          go_round
          case rel => exact ⟨c + 1, by go_num, by omega, by rw [HTK.out]⟩
          case measure => simp [intOf]; omega
      · obtain rfl : c = c9 := by omega
        rw [List.take_of_length_le (by rw [← HC9.out]; exact Nat.le_refl _), Ie.found_at l j m HM.out.1 HM.out.2]
        obtain ⟨r0, r1, r2⟩ := HL2.out.r.c3
        obtain ⟨x0, x1, x2⟩ := HL2.out.own.c3
        have f0 := HL2.out.r.fr 0
        have f1 := HL2.out.r.fr 1
        have f2 := HL2.out.r.fr 2
        have lR := HL2.out.r.lt
        have lX := HL2.out.own.lt
        have hne := HL2.out.ne
        by_cases hst : ∃ t, l[j]? = some t ∧ Ie.lvOf t = m
        · obtain ⟨t, ht, hlv⟩ := hst
          have hfd : Ie.atLv l j m = t.text := by
            unfold Ie.atLv
            rw [ht]
            exact if_pos hlv
          rw [hfd]
          have hlvs : Ie.lvS t.text = m := by
            have h := HM.out.1
            unfold Ie.lvOf at hlv
            split at hlv
            · exact hlv
            · omega
          have hlv0 : Ie.lvS t.text ≠ 0 := by have := HM.out.1; omega
          have htx : t.text ≠ ⟨#[]⟩ := fun e => hlv0 (by rw [e]; decide)
          have e1 : (t.text.toList == []) = false := lit_no htx
          have hjl := (List.getElem?_eq_some_iff.1 ht).1
          have hf1 : ∃ f', f = f' + 1 := ⟨f - 1, by rw [← HN.out] at hjl; omega⟩
          obtain ⟨f', rfl⟩ := hf1
          have hdr := drop_of ht
          have HR := Lib.hid (IH.out w2 j HL2.out.gv HL2.out.ks (by omega))
          obtain ⟨q, hq⟩ : ∃ q, q = next (l.drop (j + 1)) := ⟨_, rfl⟩
          rw [← hq] at HR
          have HQ := Lib.hid hq
          have HDR := Lib.hid hdr
          have HLV := Lib.hid hlv
          have HLV0 := Lib.hid hlv0
          have HJL := Lib.hid hjl
          obtain ⟨tx, htx9⟩ : ∃ tx, tx = t.text := ⟨_, rfl⟩
          rw [← htx9] at e1 ⊢
          have HTX := Lib.hid htx9
          clear hfd ht hlv hlvs hlv0 htx hjl hdr hq htx9
          go_wp2_with fail
          refine HR.out.mono ?_
          rintro e w4 ⟨s2, n2, a2, k2, a, rfl, hB4, hqq⟩
          have HL4 := Lib.hid (HL2.out.below hB4)
          have HB4 := Lib.hid hB4
          have HQQ : Hid (RdQ l q w2.heap.size w4 s2 n2 (.slice a2 k2 k2) a) := Lib.hid hqq
          clear hqq hB4 r0 r1 r2 x0 x1 x2 f0 f1 f2 lR lX
          obtain ⟨r0, r1, r2⟩ := HL4.out.r.c3
          obtain ⟨x0, x1, x2⟩ := HL4.out.own.c3
          have lR := HL4.out.r.lt
          have lX := HL4.out.own.lt
          cases q with
          | none =>
            obtain rfl : a = -1 := HQQ.out
            have f0 := HL4.out.r.fr 0
            have f1 := HL4.out.r.fr 1
            have f2 := HL4.out.r.fr 2
            have hb3 := set3_below HL4.out.bl R s1 n1 (.slice a1 k1 k1) HL4.out.lo
            have HE : Hid (P (.returned (.tuple #[.agg #[.string s1, .int .i64 n1, .slice a1 k1 k1], .int .i64 (-1)])) ((set3 w4 R s1 n1 (.slice a1 k1 k1)).alloc (.cells #[.string s2, .int .i64 n2, .slice a2 k2 k2] 57))) := Lib.hid (by
              rw [HP.out, HS.out, HDR.out, Ie.more_none HLV.out HQ.out.symm]
              exact no_end (hb3.alloc hb3.size _))
            have HNH := Lib.hid ((set3_nh HL4.out.r s1 n1 (.slice a1 k1 k1)).below (below_alloc _ (.cells #[.string s2, .int .i64 n2, .slice a2 k2 k2] 57)))
            clear hb3
            go_wp2_with fail
            exact bodyPost_ret (ret_rd HNH.out.c3 rfl rfl) rfl HE.out
          | some p =>
            obtain ⟨y, r⟩ := p
            obtain ⟨j2, rfl, hj2, rfl, hN⟩ := HQQ.out
            have f0 := HL4.out.own.fr 0
            have f1 := HL4.out.own.fr 1
            have f2 := HL4.out.own.fr 2
            obtain ⟨kk, hk1, hk2, hk3⟩ := HD.out _ _ _ HQ.out.symm
            have hjj : j + 1 < j2 := by
              have h := congrArg List.length hk3
              rw [List.length_drop] at h hk2
              rw [List.length_drop, List.length_drop] at h
              have := HJL.out
              omega
            have HLM := Lib.hid (LpW.more HL2.out HB4.out hj2 (t := t) HLV0.out hN)
            rw [← HTX.out] at HLM
            have HMORE : Hid (S = Ie.more next m f' (.bin tx x y) (l.drop j2)) := Lib.hid (by rw [HS.out, HDR.out, Ie.more_yes HLV.out HQ.out.symm, HTX.out])
            rw [← HN.out] at hj2
            clear hN hk1 hk2 hk3 kk
            go_wp2_with fail
            go_roundw
            case rel => exact ⟨j2, by go_num, _, _, _, _, _, f', HLM.out, HMORE.out, by omega⟩
            case measure => simp [intOf]; omega
        · have hst' : ∀ t, l[j]? = some t → Ie.lvOf t ≠ m := fun t ht he => hst ⟨t, ht, he⟩
          have hfd : Ie.atLv l j m = ⟨#[]⟩ := by
            unfold Ie.atLv
            cases hlj : l[j]? with
            | none => rfl
            | some t => exact if_neg (hst' t hlj)
          rw [hfd]
          have HE : Hid (P (.returned (.tuple #[.agg #[.string s1, .int .i64 n1, .slice a1 k1 k1], .int .i64 ((j : Nat) : Int)])) (set3 w2 R s1 n1 (.slice a1 k1 k1))) := Lib.hid (by
            rw [HP.out, HS.out, Ie.more_stop (by rw [List.length_drop, ← HN.out]; exact hf) hst']
            exact lp_end HL2.out)
          have HNH := Lib.hid (set3_nh HL2.out.r s1 n1 (.slice a1 k1 k1))
          clear hst hst' hfd
          go_wp2_with fail
          exact bodyPost_ret (ret_rd HNH.out.c3 rfl rfl) rfl HE.out
end Go.Proofs.YtognifnalfjdgaaGreatDoor

/- What is proved: reading by levels, by the document (read), whole. -/
namespace Go.Proofs.YtognifnalfjdgaaGreatDoor
open Go.RowKit Go.Shelf

set_option maxRecDepth 100000 in
set_option maxHeartbeats 8000000 in
theorem rd_0 (w : World) (l : List K) (v : Value) (i m : Nat) (g : Int) (hG : Gv w) (hv : Ks w v l) (Q : Ending → World → Prop)
    (hc : ∀ (R : Nat) (W : World) (c4 c5 c6 c7 c9 c10 c11 c12 c13 c14 c15 c16 c17 c18 c19 c20 c21 c22 c23 c24 c25 c26 c27 c28 c29 c30 c31 c32 c33 c34 c35 c36 c37 c38 c39 c40 c41 c42 c43 c44 c45 c46 c47 c48 c49 c50 c51 c52 c53 c54 c55 c56 c57 c58 c59 c60 c61 c62 c63 c64 c65 c66 c67 c68 c69 c70 c71 c72 c73 c74 c75 c76 c77 c78 c79 c80 c81 c82 c83 c84 c85 c86 c87 c88 c89 c90 c91 c92 c93 c94 c95 c96 c97 c98 c99 c100 c101 c102 c103 c104 c105 c106 c107 c108 c109 c110 c111 c112 c113 c114 c115 c116 c117 c118 c119 c120 c121 c122 c123 c124 c125 c126 c127 c128 c129 c130 c131 c132 c133 c134 c135 c136 c137 c138 : Value), RdW w l v R W → Code.wp Tryz.prog (secs 1 rdBody) (bodyPost Tryz.prog Tryz.f28 Q) ⟨#[v, .int .i64 i, .int .i64 m, .int .i64 g, c4, c5, c6, c7, .pointer (some ⟨R, 0, none⟩), c9, c10, c11, c12, c13, c14, c15, c16, c17, c18, c19, c20, c21, c22, c23, c24, c25, c26, c27, c28, c29, c30, c31, c32, c33, c34, c35, c36, c37, c38, c39, c40, c41, c42, c43, c44, c45, c46, c47, c48, c49, c50, c51, c52, c53, c54, c55, c56, c57, c58, c59, c60, c61, c62, c63, c64, c65, c66, c67, c68, c69, c70, c71, c72, c73, c74, c75, c76, c77, c78, c79, c80, c81, c82, c83, c84, c85, c86, c87, c88, c89, c90, c91, c92, c93, c94, c95, c96, c97, c98, c99, c100, c101, c102, c103, c104, c105, c106, c107, c108, c109, c110, c111, c112, c113, c114, c115, c116, c117, c118, c119, c120, c121, c122, c123, c124, c125, c126, c127, c128, c129, c130, c131, c132, c133, c134, c135, c136, c137, c138], []⟩ W) : Calls Tryz.prog 28 #[v, .int .i64 i, .int .i64 m, .int .i64 g] w Q := by
  have HC := Lib.hid hc
  have HA : Hid (RdW w l v w.heap.size (w.alloc (.cells #[.string ⟨#[]⟩, .int .i64 0, .slice none 0 0] 57))) := Lib.hid ⟨below_alloc _ _, Nat.le_refl _, Nh.new w _ _ _, hG, hv⟩
  clear hc hG hv
  go_enter Tryz.func28, Tryz.ntmps28
  show Code.wp Tryz.prog (secs 0 rdBody) _ _ _
  refine wp_sec 0 rdBody rfl ?_
  conv => arg 2; whnf
  go_wp2_with fail
  exact HC.out _ _ _ _ _ _ _ _ _ _ _ _ _ _ _ _ _ _ _ _ _ _ _ _ _ _ _ _ _ _ _ _ _ _ _ _ _ _ _ _ _ _ _ _ _ _ _ _ _ _ _ _ _ _ _ _ _ _ _ _ _ _ _ _ _ _ _ _ _ _ _ _ _ _ _ _ _ _ _ _ _ _ _ _ _ _ _ _ _ _ _ _ _ _ _ _ _ _ _ _ _ _ _ _ _ _ _ _ _ _ _ _ _ _ _ _ _ _ _ _ _ _ _ _ _ _ _ _ _ _ _ _ _ _ _ _ HA.out

theorem Ie.rdL_dec (d m : Nat) : Ie.Dec (Ie.rdL d m) := by
  obtain ⟨h1, h2⟩ := Ie.both_dec d
  unfold Ie.rdL
  split
  · exact h1
  · split
    · exact h2
    · exact Ie.levels_dec h1 _
theorem read_zero (m : Nat) : RdC 0 m := by
  intro l v i g w hG hv hT hi hg
  have hl := hT.1
  rw [Ie.rdL_0]
  exact rd_0 w l v i m g hG hv _ fun R W c4 c5 c6 c7 c9 c10 c11 c12 c13 c14 c15 c16 c17 c18 c19 c20 c21 c22 c23 c24 c25 c26 c27 c28 c29 c30 c31 c32 c33 c34 c35 c36 c37 c38 c39 c40 c41 c42 c43 c44 c45 c46 c47 c48 c49 c50 c51 c52 c53 c54 c55 c56 c57 c58 c59 c60 c61 c62 c63 c64 c65 c66 c67 c68 c69 c70 c71 c72 c73 c74 c75 c76 c77 c78 c79 c80 c81 c82 c83 c84 c85 c86 c87 c88 c89 c90 c91 c92 c93 c94 c95 c96 c97 c98 c99 c100 c101 c102 c103 c104 c105 c106 c107 c108 c109 c110 c111 c112 c113 c114 c115 c116 c117 c118 c119 c120 c121 c122 c123 c124 c125 c126 c127 c128 c129 c130 c131 c132 c133 c134 c135 c136 c137 c138 h => rd_none w W l v R i m g h hi (.inl (by omega)) (by omega) (by omega) hl _ _ _ _ _ _ _ _ _ _ _ _ _ _ _ _ _ _ _ _ _ _ _ _ _ _ _ _ _ _ _ _ _ _ _ _ _ _ _ _ _ _ _ _ _ _ _ _ _ _ _ _ _ _ _ _ _ _ _ _ _ _ _ _ _ _ _ _ _ _ _ _ _ _ _ _ _ _ _ _ _ _ _ _ _ _ _ _ _ _ _ _ _ _ _ _ _ _ _ _ _ _ _ _ _ _ _ _ _ _ _ _ _ _ _ _ _ _ _ _ _ _ _ _ _ _ _ _ _ _ _ _ _ _
theorem read_past {l : List K} {d m i : Nat} (h : l.length ≤ i) : Ie.rdL d m (l.drop i) = none := by
  rw [List.drop_eq_nil_of_le h]
  exact Ie.rdL_nil d m
theorem read_11 (d : Nat) (hd : d ≤ 60) (ah : AhC d) : RdC (d + 1) 11 := by
  intro l v i g w hG hv hT hi hg
  have hl := hT.1
  refine rd_0 w l v i 11 g hG hv _ fun R W c4 c5 c6 c7 c9 c10 c11 c12 c13 c14 c15 c16 c17 c18 c19 c20 c21 c22 c23 c24 c25 c26 c27 c28 c29 c30 c31 c32 c33 c34 c35 c36 c37 c38 c39 c40 c41 c42 c43 c44 c45 c46 c47 c48 c49 c50 c51 c52 c53 c54 c55 c56 c57 c58 c59 c60 c61 c62 c63 c64 c65 c66 c67 c68 c69 c70 c71 c72 c73 c74 c75 c76 c77 c78 c79 c80 c81 c82 c83 c84 c85 c86 c87 c88 c89 c90 c91 c92 c93 c94 c95 c96 c97 c98 c99 c100 c101 c102 c103 c104 c105 c106 c107 c108 c109 c110 c111 c112 c113 c114 c115 c116 c117 c118 c119 c120 c121 c122 c123 c124 c125 c126 c127 c128 c129 c130 c131 c132 c133 c134 c135 c136 c137 c138 h => ?_
  rcases Nat.lt_or_ge i l.length with hlt | hge
  · refine rd_1 W l v R i 11 g h.ks hlt hl (by omega) (by omega) _ _ _ _ _ _ _ _ _ _ _ _ _ _ _ _ _ _ _ _ _ _ _ _ _ _ _ _ _ _ _ _ _ _ _ _ _ _ _ _ _ _ _ _ _ _ _ _ _ _ _ _ _ _ _ _ _ _ _ _ _ _ _ _ _ _ _ _ _ _ _ _ _ _ _ _ _ _ _ _ _ _ _ _ _ _ _ _ _ _ _ _ _ _ _ _ _ _ _ _ _ _ _ _ _ _ _ _ _ _ _ _ _ _ _ _ _ _ _ _ _ _ _ _ _ _ _ _ _ _ _ _ _ _ _ fun c4 c5 c6 c7 c9 c10 c11 c12 c13 c14 c15 c16 c17 c18 c19 c20 c21 c22 c23 c24 c25 c26 c27 c28 c29 c30 c31 c32 c33 c34 c35 c36 c37 c38 c39 c40 c41 c42 c43 c44 c45 c46 c47 c48 c49 c50 c51 c52 c53 c54 c55 c56 c57 c58 c59 c60 c61 c62 c63 c64 c65 c66 c67 c68 c69 c70 c71 c72 c73 c74 c75 c76 c77 c78 c79 c80 c81 c82 c83 c84 c85 c86 c87 c88 c89 c90 c91 c92 c93 c94 c95 c96 c97 c98 c99 c100 c101 c102 c103 c104 c105 c106 c107 c108 c109 c110 c111 c112 c113 c114 c115 c116 c117 c118 c119 c120 c121 c122 c123 c124 c125 c126 c127 c128 c129 c130 c131 c132 c133 c134 c135 c136 c137 c138 => ?_
    exact rd_11 w W l hT v R i d g h hlt hg ah _ _ _ _ _ _ _ _ _ _ _ _ _ _ _ _ _ _ _ _ _ _ _ _ _ _ _ _ _ _ _ _ _ _ _ _ _ _ _ _ _ _ _ _ _ _ _ _ _ _ _ _ _ _ _ _ _ _ _ _ _ _ _ _ _ _ _ _ _ _ _ _ _ _ _ _ _ _ _ _ _ _ _ _ _ _ _ _ _ _ _ _ _ _ _ _ _ _ _ _ _ _ _ _ _ _ _ _ _ _ _ _ _ _ _ _ _ _ _ _ _ _ _ _ _ _ _ _ _ _ _ _ _ _
  · rw [read_past hge]
    exact rd_none w W l v R i 11 g h hi (.inr ⟨by omega, hge⟩) (by omega) (by omega) hl _ _ _ _ _ _ _ _ _ _ _ _ _ _ _ _ _ _ _ _ _ _ _ _ _ _ _ _ _ _ _ _ _ _ _ _ _ _ _ _ _ _ _ _ _ _ _ _ _ _ _ _ _ _ _ _ _ _ _ _ _ _ _ _ _ _ _ _ _ _ _ _ _ _ _ _ _ _ _ _ _ _ _ _ _ _ _ _ _ _ _ _ _ _ _ _ _ _ _ _ _ _ _ _ _ _ _ _ _ _ _ _ _ _ _ _ _ _ _ _ _ _ _ _ _ _ _ _ _ _ _ _ _ _
theorem read_lv (d m : Nat) (hd : d ≤ 60) (hm : 1 ≤ m) (hm2 : m ≤ 10) (up : RdC (d + 1) (m + 1)) : RdC (d + 1) m := by
  intro l v i g w hG hv hT hi hg
  have hl := hT.1
  refine rd_0 w l v i m g hG hv _ fun R W c4 c5 c6 c7 c9 c10 c11 c12 c13 c14 c15 c16 c17 c18 c19 c20 c21 c22 c23 c24 c25 c26 c27 c28 c29 c30 c31 c32 c33 c34 c35 c36 c37 c38 c39 c40 c41 c42 c43 c44 c45 c46 c47 c48 c49 c50 c51 c52 c53 c54 c55 c56 c57 c58 c59 c60 c61 c62 c63 c64 c65 c66 c67 c68 c69 c70 c71 c72 c73 c74 c75 c76 c77 c78 c79 c80 c81 c82 c83 c84 c85 c86 c87 c88 c89 c90 c91 c92 c93 c94 c95 c96 c97 c98 c99 c100 c101 c102 c103 c104 c105 c106 c107 c108 c109 c110 c111 c112 c113 c114 c115 c116 c117 c118 c119 c120 c121 c122 c123 c124 c125 c126 c127 c128 c129 c130 c131 c132 c133 c134 c135 c136 c137 c138 h => ?_
  rcases Nat.lt_or_ge i l.length with hlt | hge
  · refine rd_1 W l v R i m g h.ks hlt hl (by omega) (by omega) _ _ _ _ _ _ _ _ _ _ _ _ _ _ _ _ _ _ _ _ _ _ _ _ _ _ _ _ _ _ _ _ _ _ _ _ _ _ _ _ _ _ _ _ _ _ _ _ _ _ _ _ _ _ _ _ _ _ _ _ _ _ _ _ _ _ _ _ _ _ _ _ _ _ _ _ _ _ _ _ _ _ _ _ _ _ _ _ _ _ _ _ _ _ _ _ _ _ _ _ _ _ _ _ _ _ _ _ _ _ _ _ _ _ _ _ _ _ _ _ _ _ _ _ _ _ _ _ _ _ _ _ _ _ _ fun c4 c5 c6 c7 c9 c10 c11 c12 c13 c14 c15 c16 c17 c18 c19 c20 c21 c22 c23 c24 c25 c26 c27 c28 c29 c30 c31 c32 c33 c34 c35 c36 c37 c38 c39 c40 c41 c42 c43 c44 c45 c46 c47 c48 c49 c50 c51 c52 c53 c54 c55 c56 c57 c58 c59 c60 c61 c62 c63 c64 c65 c66 c67 c68 c69 c70 c71 c72 c73 c74 c75 c76 c77 c78 c79 c80 c81 c82 c83 c84 c85 c86 c87 c88 c89 c90 c91 c92 c93 c94 c95 c96 c97 c98 c99 c100 c101 c102 c103 c104 c105 c106 c107 c108 c109 c110 c111 c112 c113 c114 c115 c116 c117 c118 c119 c120 c121 c122 c123 c124 c125 c126 c127 c128 c129 c130 c131 c132 c133 c134 c135 c136 c137 c138 => ?_
    have e : Ie.rdL (d + 1) m (l.drop i) = match Ie.rdL (d + 1) (m + 1) (l.drop i) with | none => none | some (x, l') => Ie.more (Ie.rdL (d + 1) (m + 1)) m l'.length x l' := by
      rw [Ie.rdL_lv (d + 1) m hm hm2]
      unfold Ie.level
      cases Ie.rdL (d + 1) (m + 1) (l.drop i) <;> rfl
    refine rd_up w W l hT v R i d m g h hlt (by omega) (by omega) hm2 _ (up l v i g W h.gv h.ks hT hi hg) _ ?_ ?_ _ _ _ _ _ _ _ _ _ _ _ _ _ _ _ _ _ _ _ _ _ _ _ _ _ _ _ _ _ _ _ _ _ _ _ _ _ _ _ _ _ _ _ _ _ _ _ _ _ _ _ _ _ _ _ _ _ _ _ _ _ _ _ _ _ _ _ _ _ _ _ _ _ _ _ _ _ _ _ _ _ _ _ _ _ _ _ _ _ _ _ _ _ _ _ _ _ _ _ _ _ _ _ _ _ _ _ _ _ _ _ _ _ _ _ _ _ _ _ _ _ _ _ _ _ _ _ _ _ _ _ _ _ _
    · intro hq s n ad k W' hB
      rw [e, hq]
      exact no_end hB
    · intro X x s n ad k j W' c1 c4 c5 c6 c7 c9 c12 c13 c14 c15 c16 c17 c18 c19 c20 c21 c22 c23 c24 c25 c26 c27 c28 c29 c30 c31 c32 c33 c34 c35 c36 c37 c38 c39 c40 c41 c42 c43 c44 c45 c46 c47 c48 c49 c50 c51 c52 c53 c54 c55 c56 c57 c58 c59 c60 c61 c62 c63 c64 c65 c66 c67 c68 c69 c70 c71 c72 c73 c74 c75 c76 c77 c78 c79 c80 c81 c82 c83 c84 c85 c86 c87 c88 c89 c90 c91 c92 c93 c94 c95 c96 c97 c98 c99 c100 c101 c102 c103 c104 c105 c106 c107 c108 c109 c110 c111 c112 c113 c114 c115 c116 c117 c118 c119 c120 c121 c122 c123 c124 c125 c126 c127 c128 c129 c130 c131 c132 c133 c134 c135 c136 c137 c138 hq hL
      rw [e, hq]
      refine rd_5n W' v R X m j g hm hm2 _ _ _ _ _ _ _ _ _ _ _ _ _ _ _ _ _ _ _ _ _ _ _ _ _ _ _ _ _ _ _ _ _ _ _ _ _ _ _ _ _ _ _ _ _ _ _ _ _ _ _ _ _ _ _ _ _ _ _ _ _ _ _ _ _ _ _ _ _ _ _ _ _ _ _ _ _ _ _ _ _ _ _ _ _ _ _ _ _ _ _ _ _ _ _ _ _ _ _ _ _ _ _ _ _ _ _ _ _ _ _ _ _ _ _ _ _ _ _ _ _ _ _ _ _ _ _ _ _ _ _ _ _ _ fun c1 c4 c5 c6 c7 c9 c12 c13 c14 c15 c16 c17 c18 c19 c20 c21 c22 c23 c24 c25 c26 c27 c28 c29 c30 c31 c32 c33 c34 c35 c36 c37 c38 c39 c40 c41 c42 c43 c44 c45 c46 c47 c48 c49 c50 c51 c52 c53 c54 c55 c56 c57 c58 c59 c60 c61 c62 c63 c64 c65 c66 c67 c68 c69 c70 c71 c72 c73 c74 c75 c76 c77 c78 c79 c80 c81 c82 c83 c84 c85 c86 c87 c88 c89 c90 c91 c92 c93 c94 c95 c96 c97 c98 c99 c100 c101 c102 c103 c104 c105 c106 c107 c108 c109 c110 c111 c112 c113 c114 c115 c116 c117 c118 c119 c120 c121 c122 c123 c124 c125 c126 c127 c128 c129 c130 c131 c132 c133 c134 c135 c136 c137 c138 => ?_
      refine rd_lp w W' l hT v R X d m j g (Ie.rdL (d + 1) (m + 1)) (Ie.rdL_dec _ _) _ ⟨x, s, n, ad, k, _, hL, rfl, by rw [List.length_drop]; exact Nat.le_refl _⟩ (by omega) (by omega) hm hm2 ?_ _ _ _ _ _ _ _ _ _ _ _ _ _ _ _ _ _ _ _ _ _ _ _ _ _ _ _ _ _ _ _ _ _ _ _ _ _ _ _ _ _ _ _ _ _ _ _ _ _ _ _ _ _ _ _ _ _ _ _ _ _ _ _ _ _ _ _ _ _ _ _ _ _ _ _ _ _ _ _ _ _ _ _ _ _ _ _ _ _ _ _ _ _ _ _ _ _ _ _ _ _ _ _ _ _ _ _ _ _ _ _ _ _ _ _ _ _ _ _ _ _ _ _ _ _ _ _ _ _ _ _ _ _
      intro W j hG hv hj
      exact up l v (j + 1) g W hG hv hT (by omega) hg
  · rw [read_past hge]
    exact rd_none w W l v R i m g h hi (.inr ⟨by omega, hge⟩) (by omega) (by omega) hl _ _ _ _ _ _ _ _ _ _ _ _ _ _ _ _ _ _ _ _ _ _ _ _ _ _ _ _ _ _ _ _ _ _ _ _ _ _ _ _ _ _ _ _ _ _ _ _ _ _ _ _ _ _ _ _ _ _ _ _ _ _ _ _ _ _ _ _ _ _ _ _ _ _ _ _ _ _ _ _ _ _ _ _ _ _ _ _ _ _ _ _ _ _ _ _ _ _ _ _ _ _ _ _ _ _ _ _ _ _ _ _ _ _ _ _ _ _ _ _ _ _ _ _ _ _ _ _ _ _ _ _ _ _
theorem read_ch (d : Nat) (hd : d ≤ 60) (i0 : RdC d 0) (up : RdC (d + 1) 1) : RdC (d + 1) 0 := by
  intro l v i g w hG hv hT hi hg
  have hl := hT.1
  refine rd_0 w l v i 0 g hG hv _ fun R W c4 c5 c6 c7 c9 c10 c11 c12 c13 c14 c15 c16 c17 c18 c19 c20 c21 c22 c23 c24 c25 c26 c27 c28 c29 c30 c31 c32 c33 c34 c35 c36 c37 c38 c39 c40 c41 c42 c43 c44 c45 c46 c47 c48 c49 c50 c51 c52 c53 c54 c55 c56 c57 c58 c59 c60 c61 c62 c63 c64 c65 c66 c67 c68 c69 c70 c71 c72 c73 c74 c75 c76 c77 c78 c79 c80 c81 c82 c83 c84 c85 c86 c87 c88 c89 c90 c91 c92 c93 c94 c95 c96 c97 c98 c99 c100 c101 c102 c103 c104 c105 c106 c107 c108 c109 c110 c111 c112 c113 c114 c115 c116 c117 c118 c119 c120 c121 c122 c123 c124 c125 c126 c127 c128 c129 c130 c131 c132 c133 c134 c135 c136 c137 c138 h => ?_
  rcases Nat.lt_or_ge i l.length with hlt | hge
  · refine rd_1 W l v R i 0 g h.ks hlt hl (by omega) (by omega) _ _ _ _ _ _ _ _ _ _ _ _ _ _ _ _ _ _ _ _ _ _ _ _ _ _ _ _ _ _ _ _ _ _ _ _ _ _ _ _ _ _ _ _ _ _ _ _ _ _ _ _ _ _ _ _ _ _ _ _ _ _ _ _ _ _ _ _ _ _ _ _ _ _ _ _ _ _ _ _ _ _ _ _ _ _ _ _ _ _ _ _ _ _ _ _ _ _ _ _ _ _ _ _ _ _ _ _ _ _ _ _ _ _ _ _ _ _ _ _ _ _ _ _ _ _ _ _ _ _ _ _ _ _ _ fun c4 c5 c6 c7 c9 c10 c11 c12 c13 c14 c15 c16 c17 c18 c19 c20 c21 c22 c23 c24 c25 c26 c27 c28 c29 c30 c31 c32 c33 c34 c35 c36 c37 c38 c39 c40 c41 c42 c43 c44 c45 c46 c47 c48 c49 c50 c51 c52 c53 c54 c55 c56 c57 c58 c59 c60 c61 c62 c63 c64 c65 c66 c67 c68 c69 c70 c71 c72 c73 c74 c75 c76 c77 c78 c79 c80 c81 c82 c83 c84 c85 c86 c87 c88 c89 c90 c91 c92 c93 c94 c95 c96 c97 c98 c99 c100 c101 c102 c103 c104 c105 c106 c107 c108 c109 c110 c111 c112 c113 c114 c115 c116 c117 c118 c119 c120 c121 c122 c123 c124 c125 c126 c127 c128 c129 c130 c131 c132 c133 c134 c135 c136 c137 c138 => ?_
    have e : Ie.rdL (d + 1) 0 (l.drop i) = match Ie.rdL (d + 1) 1 (l.drop i) with | none => none | some (x, l') => Ie.chS (Ie.expr d) x l' := by
      rw [Ie.rdL_z, Ie.expr_succ, Ie.exprS_ch, Ie.rdL_1]
      cases Ie.levels (Ie.oper (d + 1)) 10 (l.drop i) <;> rfl
    refine rd_up w W l hT v R i d 0 g h hlt (by omega) (by omega) (by omega) _ (up l v i g W h.gv h.ks hT hi hg) _ ?_ ?_ _ _ _ _ _ _ _ _ _ _ _ _ _ _ _ _ _ _ _ _ _ _ _ _ _ _ _ _ _ _ _ _ _ _ _ _ _ _ _ _ _ _ _ _ _ _ _ _ _ _ _ _ _ _ _ _ _ _ _ _ _ _ _ _ _ _ _ _ _ _ _ _ _ _ _ _ _ _ _ _ _ _ _ _ _ _ _ _ _ _ _ _ _ _ _ _ _ _ _ _ _ _ _ _ _ _ _ _ _ _ _ _ _ _ _ _ _ _ _ _ _ _ _ _ _ _ _ _ _ _ _ _ _ _
    · intro hq s n ad k W' hB
      rw [e, hq]
      exact no_end hB
    · intro X x s n ad k j W' c1 c4 c5 c6 c7 c9 c12 c13 c14 c15 c16 c17 c18 c19 c20 c21 c22 c23 c24 c25 c26 c27 c28 c29 c30 c31 c32 c33 c34 c35 c36 c37 c38 c39 c40 c41 c42 c43 c44 c45 c46 c47 c48 c49 c50 c51 c52 c53 c54 c55 c56 c57 c58 c59 c60 c61 c62 c63 c64 c65 c66 c67 c68 c69 c70 c71 c72 c73 c74 c75 c76 c77 c78 c79 c80 c81 c82 c83 c84 c85 c86 c87 c88 c89 c90 c91 c92 c93 c94 c95 c96 c97 c98 c99 c100 c101 c102 c103 c104 c105 c106 c107 c108 c109 c110 c111 c112 c113 c114 c115 c116 c117 c118 c119 c120 c121 c122 c123 c124 c125 c126 c127 c128 c129 c130 c131 c132 c133 c134 c135 c136 c137 c138 hq hL
      rw [e, hq]
      exact rd_ch w W' l hT v R X d j g x s n ad k hL hg hd i0 _ _ _ _ _ _ _ _ _ _ _ _ _ _ _ _ _ _ _ _ _ _ _ _ _ _ _ _ _ _ _ _ _ _ _ _ _ _ _ _ _ _ _ _ _ _ _ _ _ _ _ _ _ _ _ _ _ _ _ _ _ _ _ _ _ _ _ _ _ _ _ _ _ _ _ _ _ _ _ _ _ _ _ _ _ _ _ _ _ _ _ _ _ _ _ _ _ _ _ _ _ _ _ _ _ _ _ _ _ _ _ _ _ _ _ _ _ _ _ _ _ _ _ _ _ _ _ _ _ _ _ _ _
  · rw [read_past hge]
    exact rd_none w W l v R i 0 g h hi (.inr ⟨by omega, hge⟩) (by omega) (by omega) hl _ _ _ _ _ _ _ _ _ _ _ _ _ _ _ _ _ _ _ _ _ _ _ _ _ _ _ _ _ _ _ _ _ _ _ _ _ _ _ _ _ _ _ _ _ _ _ _ _ _ _ _ _ _ _ _ _ _ _ _ _ _ _ _ _ _ _ _ _ _ _ _ _ _ _ _ _ _ _ _ _ _ _ _ _ _ _ _ _ _ _ _ _ _ _ _ _ _ _ _ _ _ _ _ _ _ _ _ _ _ _ _ _ _ _ _ _ _ _ _ _ _ _ _ _ _ _ _ _ _ _ _ _ _
theorem read_all : ∀ d, d ≤ 61 → ∀ m, m ≤ 11 → RdC d m
  | 0, _, m, _ => read_zero m
  | d + 1, hd, m, hm => by
    have ih := read_all d (by omega)
    have h11 := read_11 d (by omega) (ahead_of d (by omega) (ih 11 (by omega)) (ih 0 (by omega)))
    have hup : ∀ k, k ≤ 10 → RdC (d + 1) (11 - k) := by
      intro k
      induction k with
      | zero => intro _; exact h11
      | succ k ihk =>
        intro hk
        have hp := ihk (by omega)
        have e : 11 - k = (11 - (k + 1)) + 1 := by omega
        rw [e] at hp
        exact read_lv d (11 - (k + 1)) (by omega) (by omega) (by omega) hp
    rcases Nat.eq_zero_or_pos m with rfl | hpos
    · exact read_ch d (by omega) (ih 0 (by omega)) (hup 10 (by omega))
    · have h := hup (11 - m) (by omega)
      rw [show 11 - (11 - m) = m by omega] at h
      exact h
/-- The document's reading of a whole list. -/
theorem read_any (l : List K) (v : Value) (w : World) (hG : Gv w) (hv : Ks w v l) (hT : Tb l) : Calls Tryz.prog 28 #[v, .int .i64 0, .int .i64 0, .int .i64 0] w (RpPost l (Ie.expr 61 l) w) :=
  read_all 61 (Nat.le_refl _) 0 (by omega) l v 0 0 w hG hv hT (by omega) (by omega)
end Go.Proofs.YtognifnalfjdgaaGreatDoor

/- What is proved: whether a number that is none is in an expression, by the document (Bad). -/
namespace Go.Proofs.YtognifnalfjdgaaGreatDoor
open Go.RowKit Go.Shelf

def BadC (x : Ie.E) : Prop := ∀ (ok : Nat → Prop) (s : ByteArray) (n : Int) (k : Value) (W : World), Nd ok W x s n k → Calls Tryz.prog 29 #[.agg #[.string s, .int .i64 n, k]] W fun e W' => e = .returned (.bool x.isBad) ∧ Below W.heap.size W W'
noncomputable def bdBody : Code := Tryz.f29.body.getD .skip

set_option maxRecDepth 100000 in
set_option maxHeartbeats 4000000 in
theorem bd_2 (w W : World) (hB : Below w.heap.size w W) (b : Nat) (s : ByteArray) (n : Int) (k : Value) (hc : C3 W b 0 s n k) (q : Bool) (hq : q = decide (s = Ie.sBad)) (c0 c2 c3 c4 c5 c6 c7 c8 c9 c10 c11 c12 c13 c14 c15 c16 c17 c18 c19 c20 c21 : Value) :
    Code.wp Tryz.prog (secs 2 bdBody) (bodyPost Tryz.prog Tryz.f29 fun e W' => e = .returned (.bool q) ∧ Below w.heap.size w W') ⟨#[c0, .pointer (some ⟨b, 0, none⟩), c2, c3, c4, c5, c6, c7, c8, c9, c10, c11, c12, c13, c14, c15, c16, c17, c18, c19, c20, c21], []⟩ W := by
  have HB := Lib.hid hB
  obtain ⟨c0, c1, c2⟩ := hc
  clear hB
  by_cases h : s = Ie.sBad
  · rw [hq, decide_eq_true h]
    subst h
    unfold Ie.sBad at c0
    clear hq
    refine wp_sec 2 bdBody rfl ?_
    conv => arg 2; whnf
    go_wp2_with fail
    conv => arg 2; whnf
    go_wp2_with fail
    go_ret
    exact ⟨rfl, HB.out⟩
  · have h1 : (s.toList == [98, 97, 100]) = false := lit_no h
    rw [hq, decide_eq_false h]
    clear hq h
    refine wp_sec 2 bdBody rfl ?_
    conv => arg 2; whnf
    go_wp2_with fail
    conv => arg 2; whnf
    go_wp2_with fail
    go_ret
    exact ⟨rfl, HB.out⟩

set_option maxRecDepth 100000 in
set_option maxHeartbeats 4000000 in
theorem bad_of (x : Ie.E) (ih : ∀ y ∈ Ie.kids x, BadC y) : BadC x := by
  intro ok s n k w hN
  obtain ⟨hs, hn, hf, ad, hk, hp⟩ := hN.parts
  obtain ⟨q, hq⟩ : ∃ q, q = x.isBad := ⟨_, rfl⟩
  have hq1 : q = ((Ie.kids x).any Ie.E.isBad || decide (s = Ie.sBad)) := by rw [hq, Ie.isBad_kids, Ie.sgn_bad hf, hs]
  rw [← hq]
  obtain ⟨l, hl⟩ : ∃ l, l = Ie.kids x := ⟨_, rfl⟩
  rw [← hl] at hk hp ih hq1
  obtain ⟨m, hm⟩ : ∃ m, m = l.length := ⟨_, rfl⟩
  have hm3 : m ≤ 3 := by rw [hm, hl]; cases x <;> simp [Ie.kids]
  rw [← hm] at hk
  subst hk
  have HP := Lib.hid hp
  have IH := Lib.hid ih
  have HQ := Lib.hid hq1
  have HM := Lib.hid hm
  obtain ⟨B, hBB⟩ : ∃ B, B = w.heap.size := ⟨_, rfl⟩
  obtain ⟨V, hV⟩ : ∃ V, V = w.alloc (.cells #[.string s, .int .i64 n, .slice ad m m] 57) := ⟨_, rfl⟩
  have cV : C3 V B 0 s n (.slice ad m m) := by
    rw [hV, hBB]
    exact ⟨World.cell?_alloc_mark .., World.cell?_alloc_mark .., World.cell?_alloc_mark ..⟩
  have hBV : Below w.heap.size w V := by rw [hV]; exact (Below.refl _ _).alloc (Nat.le_refl _) _
  have HBV := Lib.hid hBV
  have HCV := Lib.hid cV
  clear hq hq1 hp ih hf hs hn hN hl hm hBV cV
  go_enter Tryz.func29, Tryz.ntmps29
  show Code.wp Tryz.prog (secs 0 bdBody) _ _ _
  refine wp_sec 0 bdBody rfl ?_
  conv => arg 2; whnf
  go_wp2_with fail
  rw [← hV, ← hBB]
  clear hV hBB
  refine wp_sec 1 bdBody rfl ?_
  conv => arg 2; whnf
  go_wp2_with fail
  go_loopw [3] (fun i wr => ∃ j : Nat, i = .int .i64 j ∧ j ≤ m ∧ (l.take j).any Ie.E.isBad = false ∧ Below w.heap.size w wr ∧ C3 wr B 0 s n (.slice ad m m)) (fun i _ => m - (intOf i).toNat)
  case atStart => exact ⟨0, rfl, Nat.zero_le _, by simp, HBV.out, HCV.out⟩
  case round =>
    obtain ⟨j, rfl, hj, ha, hB, hc⟩ := hrel
    have HB := Lib.hid hB
    have HC := Lib.hid hc
    have HA := Lib.hid ha
    obtain ⟨c0, c1, c2⟩ := hc
    clear hB ha
    by_cases hlt : j < m
    · obtain ⟨y, hy⟩ : ∃ y, l[j]? = some y := ⟨_, List.getElem?_eq_getElem (by rw [← HM.out]; exact hlt)⟩
      obtain ⟨b, s', n', k', had, hokb, hcb, hny⟩ := HP.out j y hy
      have hcw := hcb.below HB.out
      have hNw := hny.below HB.out
      have NY := Lib.hid (IH.out y (List.mem_of_getElem? hy) ok s' n' k' _ hNw)
      obtain ⟨d0, d1, d2⟩ := hcw
      obtain ⟨p, hp⟩ : ∃ p, p = y.isBad := ⟨_, rfl⟩
      rw [← hp] at NY
      have HPY := Lib.hid hp
      have HY := Lib.hid hy
      subst had
      clear hcb hny hNw hokb hp hy
      go_wp2_with fail
      refine NY.out.mono ?_
      rintro e w2 ⟨rfl, hB2⟩
      have HB2 := Lib.hid (Below.then HB.out hB2)
      have HC2 := Lib.hid (HC.out.below hB2)
      clear hB2
      cases p with
      | true =>
        have hq : q = true := by
          rw [HQ.out]
          have : l.any Ie.E.isBad = true := List.any_eq_true.2 ⟨y, List.mem_of_getElem? HY.out, HPY.out.symm⟩
          rw [this]; rfl
        subst hq
        go_wp2_with fail
        go_ret
        exact ⟨rfl, HB2.out⟩
      | false =>
        go_wp2_with fail
        go_roundw
        case rel =>
          refine ⟨j + 1, by go_num, by omega, ?_, HB2.out, HC2.out⟩
          obtain ⟨hj2, hy2⟩ := List.getElem?_eq_some_iff.1 HY.out
          rw [List.take_succ_eq_append_getElem hj2, List.any_append, HA.out, hy2]
          show (false || (y.isBad || false)) = false
          rw [← HPY.out]; rfl
        case measure => simp [intOf]; omega
    · obtain rfl : j = m := by omega
      have hq : q = decide (s = Ie.sBad) := by
        rw [HQ.out]
        have : l.any Ie.E.isBad = false := by
          have h := HA.out
          rw [List.take_of_length_le (by rw [← HM.out]; exact Nat.le_refl _)] at h
          exact h
        rw [this]; rfl
      have HQQ := Lib.hid hq
      clear hq
      go_wp2_with fail
      exact bd_2 w _ HB.out B s n _ HC.out q HQQ.out _ _ _ _ _ _ _ _ _ _ _ _ _ _ _ _ _ _ _ _ _
theorem bad_any : ∀ x, BadC x := Ie.kid_ind bad_of
end Go.Proofs.YtognifnalfjdgaaGreatDoor

/- What is proved: what an expression comes to, by the document (Comes). -/
namespace Go.Proofs.YtognifnalfjdgaaGreatDoor
open Go.RowKit Go.Shelf

namespace Ie
theorem one_in (b : Bool) : InR (one b) := by cases b <;> exact ⟨by decide, by decide⟩
theorem w64_inR (n : Int) : InR (w64 n) := ⟨w64_lo n, w64_hi n⟩
theorem shr_in {a : Int} (h : InR a) (k : Nat) : InR (a / 2 ^ k) := by
  obtain ⟨h1, h2⟩ := h
  have hp : (0 : Int) < 2 ^ k := Int.pow_pos (by decide)
  refine ⟨?_, ?_⟩
  · rw [Int.le_ediv_iff_mul_le hp]
    generalize (2 : Int) ^ k = t at hp
    omega
  · have hq : a / 2 ^ k ≤ 9223372036854775807 / 2 ^ k := Int.ediv_le_ediv hp h2
    have : (9223372036854775807 : Int) / 2 ^ k ≤ 9223372036854775807 := Int.ediv_le_self _ (by decide)
    omega
theorem two_in {s : ByteArray} {a b : Int} (ha : InR a) : InR (two s a b).1 := by
  have key : ∀ (c : Prop) [Decidable c] (p q : Int × Int), InR p.1 → InR q.1 → InR (if c then p else q).1 := fun c _ p q hp hq => by
    split
    · exact hp
    · exact hq
  have z : InR 0 := ⟨by decide, by decide⟩
  unfold two
  repeat' (first | exact one_in _ | exact w64_inR _ | exact z | exact shr_in ha _ | exact tmod_in ha | refine key _ _ _ ?_ ?_)
theorem una_in {s : ByteArray} {a : Int} (ha : InR a) : InR (una s a) := by
  unfold una
  split
  · exact w64_inR _
  · split
    · exact one_in _
    · split
      · exact w64_inR _
      · exact ha
theorem early_in {s : ByteArray} {a n : Int} (h : early s a = some n) : InR n := by
  unfold early at h
  split at h
  · cases h; exact ⟨by decide, by decide⟩
  · split at h
    · cases h; exact ⟨by decide, by decide⟩
    · cases h
end Ie
/-- What it comes to is an int of 64 bits. -/
theorem comes_in {ok : Nat → Prop} {W : World} : ∀ {x : Ie.E} {s : ByteArray} {m : Int} {k : Value}, Nd ok W x s m k → Ie.InR (Ie.comes x).1
  | .num n, s, m, k, h => h.2.2.2
  | .bad, s, m, k, h => ⟨by show -9223372036854775808 ≤ (0 : Int); decide, by show (0 : Int) ≤ 9223372036854775807; decide⟩
  | .un g x, s, m, k, ⟨e1, e2, e3, b, s1, n1, k1, e4, hb, c1, h1⟩ => by
    have ih := comes_in h1
    unfold Ie.comes
    split
    · exact ⟨by show -9223372036854775808 ≤ (0 : Int); decide, by show (0 : Int) ≤ 9223372036854775807; decide⟩
    · exact Ie.una_in ih
  | .bin g x y, s, m, k, ⟨e1, e2, e3, b, s1, n1, k1, s2, n2, k2, e4, hb, c1, h1, c2, h2⟩ => by
    have ih := comes_in h1
    unfold Ie.comes
    split
    · exact ⟨by show -9223372036854775808 ≤ (0 : Int); decide, by show (0 : Int) ≤ 9223372036854775807; decide⟩
    · split
      · rename_i n he
        exact Ie.early_in he
      · split
        · exact ⟨by show -9223372036854775808 ≤ (0 : Int); decide, by show (0 : Int) ≤ 9223372036854775807; decide⟩
        · exact Ie.two_in ih
  | .ask x y z, s, m, k, ⟨e1, e2, b, s1, n1, k1, s2, n2, k2, s3, n3, k3, e4, hb, c1, h1, c2, h2, c3, h3⟩ => by
    have i2 := comes_in h2
    have i3 := comes_in h3
    unfold Ie.comes
    split
    · exact ⟨by show -9223372036854775808 ≤ (0 : Int); decide, by show (0 : Int) ≤ 9223372036854775807; decide⟩
    · split
      · exact i2
      · exact i3

def ComesC (x : Ie.E) : Prop := ∀ (ok : Nat → Prop) (s : ByteArray) (n : Int) (k : Value) (W : World), Nd ok W x s n k → Calls Tryz.prog 30 #[.agg #[.string s, .int .i64 n, k]] W fun e W' => e = .returned (.tuple #[.int .i64 (Ie.comes x).1, .int .i64 (Ie.comes x).2]) ∧ Below W.heap.size W W'
def CmPost (p : Int × Int) (w : World) (e : Ending) (W' : World) : Prop := e = .returned (.tuple #[.int .i64 p.1, .int .i64 p.2]) ∧ Below w.heap.size w W'
noncomputable def cmBody : Code := Tryz.f30.body.getD .skip

/-! A number alone, or one that is none. -/
set_option maxRecDepth 100000 in
set_option maxHeartbeats 4000000 in
theorem cm_leaf (s : ByteArray) (n : Int) (w : World) : Calls Tryz.prog 30 #[.agg #[.string s, .int .i64 n, .slice none 0 0]] w (CmPost (n, 0) w) := by
  have HB := Lib.hid ((Below.refl w.heap.size w).alloc (Nat.le_refl _) (.cells #[.string s, .int .i64 n, .slice none 0 0] 57))
  go_enter Tryz.func30, Tryz.ntmps30
  show Code.wp Tryz.prog (secs 0 cmBody) _ _ _
  refine wp_sec 0 cmBody rfl ?_
  conv => arg 2; whnf
  go_wp2_with fail
  refine wp_sec 1 cmBody rfl ?_
  conv => arg 2; whnf
  go_wp2_with fail
  go_ret2
  exact ⟨rfl, HB.out⟩

/-! How it begins where there are parts: the first one comes to (a, e). -/
set_option maxRecDepth 100000 in
set_option maxHeartbeats 4000000 in
theorem cm_head (x : Ie.E) (ok : Nat → Prop) (s : ByteArray) (m : Nat) (hm : 0 < m) (hm3 : m ≤ 3) (b : Nat) (s1 : ByteArray) (n1 : Int) (k1 : Value) (w : World) (c1 : C3 w b 0 s1 n1 k1) (h1 : Nd ok w x s1 n1 k1) (ih : ComesC x) (P : Int × Int)
    (hcont : ∀ W (c0 c2 c3 c6 c7 c8 c9 c10 c11 c12 c13 c14 c15 c16 c17 c18 c19 c20 c21 c22 c23 c24 c25 c26 c27 c28 c29 c30 c31 c32 c33 c34 c35 c36 c37 c38 c39 c40 c41 c42 c43 c44 c45 c46 c47 c48 c49 c50 c51 c52 c53 c54 c55 c56 c57 c58 c59 c60 c61 c62 c63 c64 c65 c66 c67 c68 c69 c70 c71 c72 c73 c74 c75 c76 c77 c78 c79 c80 c81 c82 c83 c84 c85 c86 c87 c88 c89 c90 c91 c92 c93 c94 c95 : Value), Below w.heap.size w W → C3 W w.heap.size 0 s 0 (.slice (some ⟨b, 0, none⟩) m m) → Code.wp Tryz.prog (secs 3 cmBody) (bodyPost Tryz.prog Tryz.f30 (CmPost P w)) ⟨#[c0, .pointer (some ⟨w.heap.size, 0, none⟩), c2, c3, .int .i64 (Ie.comes x).1, .int .i64 (Ie.comes x).2, c6, c7, c8, c9, c10, c11, c12, c13, c14, c15, c16, c17, c18, c19, c20, c21, c22, c23, c24, c25, c26, c27, c28, c29, c30, c31, c32, c33, c34, c35, c36, c37, c38, c39, c40, c41, c42, c43, c44, c45, c46, c47, c48, c49, c50, c51, c52, c53, c54, c55, c56, c57, c58, c59, c60, c61, c62, c63, c64, c65, c66, c67, c68, c69, c70, c71, c72, c73, c74, c75, c76, c77, c78, c79, c80, c81, c82, c83, c84, c85, c86, c87, c88, c89, c90, c91, c92, c93, c94, c95], []⟩ W) :
    Calls Tryz.prog 30 #[.agg #[.string s, .int .i64 0, .slice (some ⟨b, 0, none⟩) m m]] w (CmPost P w) := by
  have HCO := Lib.hid hcont
  obtain ⟨V, hV⟩ : ∃ V, V = w.alloc (.cells #[.string s, .int .i64 0, .slice (some ⟨b, 0, none⟩) m m] 57) := ⟨_, rfl⟩
  have cV : C3 V w.heap.size 0 s 0 (.slice (some ⟨b, 0, none⟩) m m) := by
    rw [hV]
    exact ⟨World.cell?_alloc_mark .., World.cell?_alloc_mark .., World.cell?_alloc_mark ..⟩
  have hBV : Below w.heap.size w V := by rw [hV]; exact (Below.refl _ _).alloc (Nat.le_refl _) _
  obtain ⟨d0, d1, d2⟩ := c1.below hBV
  have NY := Lib.hid (ih ok s1 n1 k1 V (h1.below hBV))
  have HC := Lib.hid cV
  have HBV := Lib.hid hBV
  obtain ⟨c0, cc1, c2⟩ := cV
  obtain ⟨p, hp⟩ : ∃ p, p = Ie.comes x := ⟨_, rfl⟩
  rw [← hp] at NY HCO
  obtain ⟨a, e⟩ := p
  obtain ⟨B, hBB⟩ : ∃ B, B = w.heap.size := ⟨_, rfl⟩
  have HW := Lib.hid hBB
  clear hcont c1 h1 ih hBV hp
  go_enter Tryz.func30, Tryz.ntmps30
  show Code.wp Tryz.prog (secs 0 cmBody) _ _ _
  refine wp_sec 0 cmBody rfl ?_
  conv => arg 2; whnf
  go_wp2_with fail
  rw [← hV]
  rw [← hBB] at c0 cc1 c2 HC ⊢
  clear hV hBB
  refine wp_sec 1 cmBody rfl ?_
  conv => arg 2; whnf
  go_wp2_with fail
  refine wp_sec 2 cmBody rfl ?_
  conv => arg 2; whnf
  go_wp2_with fail
  refine NY.out.mono ?_
  rintro ee w2 ⟨rfl, hB2⟩
  have HB2 := Lib.hid (Below.then HBV.out hB2)
  have HC2 := Lib.hid (HC.out.below hB2)
  clear hB2 c0 cc1 c2 d0 d1 d2
  go_wp2_with fail
  rw [HW.out] at HC2 ⊢
  exact HCO.out w2 _ _ _ _ _ _ _ _ _ _ _ _ _ _ _ _ _ _ _ _ _ _ _ _ _ _ _ _ _ _ _ _ _ _ _ _ _ _ _ _ _ _ _ _ _ _ _ _ _ _ _ _ _ _ _ _ _ _ _ _ _ _ _ _ _ _ _ _ _ _ _ _ _ _ _ _ _ _ _ _ _ _ _ _ _ _ _ _ _ _ _ _ _ HB2.out HC2.out
end Go.Proofs.YtognifnalfjdgaaGreatDoor

/- What is proved: what an expression comes to, by the document: by its sign (Comes). -/
namespace Go.Proofs.YtognifnalfjdgaaGreatDoor
open Go.RowKit Go.Shelf

set_option maxRecDepth 100000 in
set_option maxHeartbeats 4000000 in
theorem cm_err (w W : World) (hB : Below w.heap.size w W) (e : Int) (he : e ≠ 0) (c0 c1 c2 c3 c4 c6 c7 c8 c9 c10 c11 c12 c13 c14 c15 c16 c17 c18 c19 c20 c21 c22 c23 c24 c25 c26 c27 c28 c29 c30 c31 c32 c33 c34 c35 c36 c37 c38 c39 c40 c41 c42 c43 c44 c45 c46 c47 c48 c49 c50 c51 c52 c53 c54 c55 c56 c57 c58 c59 c60 c61 c62 c63 c64 c65 c66 c67 c68 c69 c70 c71 c72 c73 c74 c75 c76 c77 c78 c79 c80 c81 c82 c83 c84 c85 c86 c87 c88 c89 c90 c91 c92 c93 c94 c95 : Value) :
    Code.wp Tryz.prog (secs 3 cmBody) (bodyPost Tryz.prog Tryz.f30 (CmPost (0, e) w)) ⟨#[c0, c1, c2, c3, c4, .int .i64 e, c6, c7, c8, c9, c10, c11, c12, c13, c14, c15, c16, c17, c18, c19, c20, c21, c22, c23, c24, c25, c26, c27, c28, c29, c30, c31, c32, c33, c34, c35, c36, c37, c38, c39, c40, c41, c42, c43, c44, c45, c46, c47, c48, c49, c50, c51, c52, c53, c54, c55, c56, c57, c58, c59, c60, c61, c62, c63, c64, c65, c66, c67, c68, c69, c70, c71, c72, c73, c74, c75, c76, c77, c78, c79, c80, c81, c82, c83, c84, c85, c86, c87, c88, c89, c90, c91, c92, c93, c94, c95], []⟩ W := by
  have HB := Lib.hid hB
  clear hB
  refine wp_sec 3 cmBody rfl ?_
  conv => arg 2; whnf
  go_wp2_with fail
  go_ret2
  exact ⟨rfl, HB.out⟩

set_option maxRecDepth 100000 in
set_option maxHeartbeats 4000000 in
theorem cm_8 (w W : World) (hB : Below w.heap.size w W) (B b : Nat) (s : ByteArray) (a : Int) (y : Ie.E) (ok : Nat → Prop) (s2 : ByteArray) (n2 : Int) (k2 : Value) (hc : C3 W B 0 s 0 (.slice (some ⟨b, 0, none⟩) 2 2)) (h2c : C3 W b 3 s2 n2 k2) (h2 : Nd ok W y s2 n2 k2) (ih : ComesC y) (ha : Ie.InR a) (hs : Ie.lvS s ≠ 0) (c0 c2 c3 c5 c6 c7 c8 c9 c10 c11 c12 c13 c14 c15 c16 c17 c18 c19 c20 c21 c22 c23 c24 c25 c26 c27 c28 c29 c30 c31 c32 c33 c34 c35 c36 c37 c38 c39 c40 c41 c42 c43 c44 c45 c46 c47 c48 c49 c50 c51 c52 c53 c54 c55 c56 c57 c58 c59 c60 c61 c62 c63 c64 c65 c66 c67 c68 c69 c70 c71 c72 c73 c74 c75 c76 c77 c78 c79 c80 c81 c82 c83 c84 c85 c86 c87 c88 c89 c90 c91 c92 c93 c94 c95 : Value) :
    Code.wp Tryz.prog (secs 8 cmBody) (bodyPost Tryz.prog Tryz.f30 (CmPost (if (Ie.comes y).2 ≠ 0 then (0, (Ie.comes y).2) else Ie.two s a (Ie.comes y).1) w)) ⟨#[c0, .pointer (some ⟨B, 0, none⟩), c2, c3, .int .i64 a, c5, c6, c7, c8, c9, c10, c11, c12, c13, c14, c15, c16, c17, c18, c19, c20, c21, c22, c23, c24, c25, c26, c27, c28, c29, c30, c31, c32, c33, c34, c35, c36, c37, c38, c39, c40, c41, c42, c43, c44, c45, c46, c47, c48, c49, c50, c51, c52, c53, c54, c55, c56, c57, c58, c59, c60, c61, c62, c63, c64, c65, c66, c67, c68, c69, c70, c71, c72, c73, c74, c75, c76, c77, c78, c79, c80, c81, c82, c83, c84, c85, c86, c87, c88, c89, c90, c91, c92, c93, c94, c95], []⟩ W := by
  have NY := Lib.hid (ih ok s2 n2 k2 W h2)
  have HB := Lib.hid hB
  have HC := Lib.hid hc
  obtain ⟨p, hp⟩ : ∃ p, p = Ie.comes y := ⟨_, rfl⟩
  rw [← hp] at NY ⊢
  obtain ⟨v, f⟩ := p
  dsimp only at NY ⊢
  have TW : Hid (∀ W, Calls Tryz.prog 22 #[.string s, .int .i64 a, .int .i64 v] W (TwoPost (Ie.two s a v) W)) := Lib.hid fun W => rtwo_any s a v W ha hs
  obtain ⟨c0, c1, c2⟩ := hc
  obtain ⟨d0, d1, d2⟩ := h2c
  clear hB h2 ih hp ha hs
  by_cases hf : f = 0
  · rw [if_neg (fun h => h hf)]
    obtain ⟨q, hq⟩ : ∃ q, q = Ie.two s a v := ⟨_, rfl⟩
    rw [← hq] at TW ⊢
    obtain ⟨q1, q2⟩ := q
    clear hq
    subst hf
    refine wp_sec 8 cmBody rfl ?_
    conv => arg 2; whnf
    go_wp2_with fail
    refine NY.out.mono ?_
    rintro ee w2 ⟨rfl, hB2⟩
    have HB2 := Lib.hid (Below.then HB.out hB2)
    have HC2 := HC.out.below hB2
    clear hB2 c0 c1 c2 d0 d1 d2
    obtain ⟨c0, c1, c2⟩ := HC2
    go_wp2_with fail
    refine wp_sec 9 cmBody rfl ?_
    conv => arg 2; whnf
    go_wp2_with fail
    refine wp_sec 10 cmBody rfl ?_
    conv => arg 2; whnf
    go_wp2_with fail
    refine (TW.out _).mono ?_
    rintro ee w3 ⟨rfl, rfl⟩
    go_wp2_with fail
    conv => arg 2; whnf
    go_wp2_with fail
    go_ret2
    exact ⟨rfl, HB2.out⟩
  · rw [if_pos hf]
    refine wp_sec 8 cmBody rfl ?_
    conv => arg 2; whnf
    go_wp2_with fail
    refine NY.out.mono ?_
    rintro ee w2 ⟨rfl, hB2⟩
    have HB2 := Lib.hid (Below.then HB.out hB2)
    clear hB2
    go_wp2_with fail
    refine wp_sec 9 cmBody rfl ?_
    conv => arg 2; whnf
    go_wp2_with fail
    go_ret2
    exact ⟨rfl, HB2.out⟩

set_option maxRecDepth 100000 in
set_option maxHeartbeats 4000000 in
/-- Of two, from the sign on: early, or what both come to. -/
theorem cm_4 (w W : World) (hB : Below w.heap.size w W) (B b : Nat) (s : ByteArray) (a : Int) (y : Ie.E) (ok : Nat → Prop) (s2 : ByteArray) (n2 : Int) (k2 : Value) (hc : C3 W B 0 s 0 (.slice (some ⟨b, 0, none⟩) 2 2)) (h2c : C3 W b 3 s2 n2 k2) (h2 : Nd ok W y s2 n2 k2) (ih : ComesC y) (ha : Ie.InR a) (hs : Ie.lvS s ≠ 0) (c0 c2 c3 c5 c6 c7 c8 c9 c10 c11 c12 c13 c14 c15 c16 c17 c18 c19 c20 c21 c22 c23 c24 c25 c26 c27 c28 c29 c30 c31 c32 c33 c34 c35 c36 c37 c38 c39 c40 c41 c42 c43 c44 c45 c46 c47 c48 c49 c50 c51 c52 c53 c54 c55 c56 c57 c58 c59 c60 c61 c62 c63 c64 c65 c66 c67 c68 c69 c70 c71 c72 c73 c74 c75 c76 c77 c78 c79 c80 c81 c82 c83 c84 c85 c86 c87 c88 c89 c90 c91 c92 c93 c94 c95 : Value) :
    Code.wp Tryz.prog (secs 4 cmBody) (bodyPost Tryz.prog Tryz.f30 (CmPost (match Ie.early s a with | some n => (n, 0) | none => if (Ie.comes y).2 ≠ 0 then (0, (Ie.comes y).2) else Ie.two s a (Ie.comes y).1) w)) ⟨#[c0, .pointer (some ⟨B, 0, none⟩), c2, c3, .int .i64 a, c5, c6, c7, c8, c9, c10, c11, c12, c13, c14, c15, c16, c17, c18, c19, c20, c21, c22, c23, c24, c25, c26, c27, c28, c29, c30, c31, c32, c33, c34, c35, c36, c37, c38, c39, c40, c41, c42, c43, c44, c45, c46, c47, c48, c49, c50, c51, c52, c53, c54, c55, c56, c57, c58, c59, c60, c61, c62, c63, c64, c65, c66, c67, c68, c69, c70, c71, c72, c73, c74, c75, c76, c77, c78, c79, c80, c81, c82, c83, c84, c85, c86, c87, c88, c89, c90, c91, c92, c93, c94, c95], []⟩ W := by
  have T8 := Lib.hid (cm_8 w W hB B b s a y ok s2 n2 k2 hc h2c h2 ih ha hs)
  obtain ⟨P, hP⟩ : ∃ P, P = (if (Ie.comes y).2 ≠ 0 then (0, (Ie.comes y).2) else Ie.two s a (Ie.comes y).1) := ⟨_, rfl⟩
  rw [← hP] at T8 ⊢
  have HB := Lib.hid hB
  obtain ⟨c0, c1, c2⟩ := hc
  have q0 : (s.toList == [63]) = false := lit_no (by rintro rfl; exact hs (by decide))
  clear hP h2c h2 ih hB
  by_cases h1 : s = Ie.sOr
  · subst h1
    unfold Ie.sOr at c0 q0 ⊢
    by_cases hx : a = 0
    · rw [show Ie.early ⟨#[124, 124]⟩ a = none by rw [hx]; rfl]
      dsimp only
      subst hx
      refine wp_sec 4 cmBody rfl ?_
      conv => arg 2; whnf
      go_wp2_with fail
      refine wp_sec 5 cmBody rfl ?_
      conv => arg 2; whnf
      go_wp2_with fail
      refine wp_sec 6 cmBody rfl ?_
      conv => arg 2; whnf
      go_wp2_with fail
      refine wp_sec 7 cmBody rfl ?_
      conv => arg 2; whnf
      go_wp2_with fail
      exact T8.out _ _ _ _ _ _ _ _ _ _ _ _ _ _ _ _ _ _ _ _ _ _ _ _ _ _ _ _ _ _ _ _ _ _ _ _ _ _ _ _ _ _ _ _ _ _ _ _ _ _ _ _ _ _ _ _ _ _ _ _ _ _ _ _ _ _ _ _ _ _ _ _ _ _ _ _ _ _ _ _ _ _ _ _ _ _ _ _ _ _ _ _ _ _
    · rw [show Ie.early ⟨#[124, 124]⟩ a = some 1 from if_pos ⟨rfl, hx⟩]
      dsimp only
      refine wp_sec 4 cmBody rfl ?_
      conv => arg 2; whnf
      go_wp2_with fail
      refine wp_sec 5 cmBody rfl ?_
      conv => arg 2; whnf
      go_wp2_with fail
      refine wp_sec 6 cmBody rfl ?_
      conv => arg 2; whnf
      go_wp2_with fail
      go_ret2
      exact ⟨rfl, HB.out⟩
  · by_cases h2 : s = Ie.sAnd
    · subst h2
      unfold Ie.sAnd at c0 q0 ⊢
      by_cases hx : a = 0
      · rw [show Ie.early ⟨#[38, 38]⟩ a = some 0 by rw [hx]; rfl]
        dsimp only
        subst hx
        refine wp_sec 4 cmBody rfl ?_
        conv => arg 2; whnf
        go_wp2_with fail
        refine wp_sec 5 cmBody rfl ?_
        conv => arg 2; whnf
        go_wp2_with fail
        refine wp_sec 6 cmBody rfl ?_
        conv => arg 2; whnf
        go_wp2_with fail
        refine wp_sec 7 cmBody rfl ?_
        conv => arg 2; whnf
        go_wp2_with fail
        go_ret2
        exact ⟨rfl, HB.out⟩
      · rw [show Ie.early ⟨#[38, 38]⟩ a = none by unfold Ie.early; rw [if_neg (fun h => absurd h.1 (by decide)), if_neg (fun h => hx h.2)]]
        dsimp only
        refine wp_sec 4 cmBody rfl ?_
        conv => arg 2; whnf
        go_wp2_with fail
        refine wp_sec 5 cmBody rfl ?_
        conv => arg 2; whnf
        go_wp2_with fail
        refine wp_sec 6 cmBody rfl ?_
        conv => arg 2; whnf
        go_wp2_with fail
        refine wp_sec 7 cmBody rfl ?_
        conv => arg 2; whnf
        go_wp2_with fail
        exact T8.out _ _ _ _ _ _ _ _ _ _ _ _ _ _ _ _ _ _ _ _ _ _ _ _ _ _ _ _ _ _ _ _ _ _ _ _ _ _ _ _ _ _ _ _ _ _ _ _ _ _ _ _ _ _ _ _ _ _ _ _ _ _ _ _ _ _ _ _ _ _ _ _ _ _ _ _ _ _ _ _ _ _ _ _ _ _ _ _ _ _ _ _ _ _
    · rw [show Ie.early s a = none by unfold Ie.early; rw [if_neg (fun h => h1 h.1), if_neg (fun h => h2 h.1)]]
      dsimp only
      have q1 : (s.toList == [124, 124]) = false := lit_no h1
      have q2 : (s.toList == [38, 38]) = false := lit_no h2
      clear h1 h2
      refine wp_sec 4 cmBody rfl ?_
      conv => arg 2; whnf
      go_wp2_with fail
      refine wp_sec 5 cmBody rfl ?_
      conv => arg 2; whnf
      go_wp2_with fail
      refine wp_sec 6 cmBody rfl ?_
      conv => arg 2; whnf
      go_wp2_with fail
      refine wp_sec 7 cmBody rfl ?_
      conv => arg 2; whnf
      go_wp2_with fail
      exact T8.out _ _ _ _ _ _ _ _ _ _ _ _ _ _ _ _ _ _ _ _ _ _ _ _ _ _ _ _ _ _ _ _ _ _ _ _ _ _ _ _ _ _ _ _ _ _ _ _ _ _ _ _ _ _ _ _ _ _ _ _ _ _ _ _ _ _ _ _ _ _ _ _ _ _ _ _ _ _ _ _ _ _ _ _ _ _ _ _ _ _ _ _ _ _
set_option maxRecDepth 100000 in
set_option maxHeartbeats 4000000 in
theorem cm_una (w W : World) (hB : Below w.heap.size w W) (B b : Nat) (a : Int) (hc : C3 W B 0 ⟨#[43]⟩ 0 (.slice (some ⟨b, 0, none⟩) 1 1)) (c0 c2 c3 c5 c6 c7 c8 c9 c10 c11 c12 c13 c14 c15 c16 c17 c18 c19 c20 c21 c22 c23 c24 c25 c26 c27 c28 c29 c30 c31 c32 c33 c34 c35 c36 c37 c38 c39 c40 c41 c42 c43 c44 c45 c46 c47 c48 c49 c50 c51 c52 c53 c54 c55 c56 c57 c58 c59 c60 c61 c62 c63 c64 c65 c66 c67 c68 c69 c70 c71 c72 c73 c74 c75 c76 c77 c78 c79 c80 c81 c82 c83 c84 c85 c86 c87 c88 c89 c90 c91 c92 c93 c94 c95 : Value) :
    Code.wp Tryz.prog (secs 4 cmBody) (bodyPost Tryz.prog Tryz.f30 (CmPost (Ie.una ⟨#[43]⟩ a, 0) w)) ⟨#[c0, .pointer (some ⟨B, 0, none⟩), c2, c3, .int .i64 a, c5, c6, c7, c8, c9, c10, c11, c12, c13, c14, c15, c16, c17, c18, c19, c20, c21, c22, c23, c24, c25, c26, c27, c28, c29, c30, c31, c32, c33, c34, c35, c36, c37, c38, c39, c40, c41, c42, c43, c44, c45, c46, c47, c48, c49, c50, c51, c52, c53, c54, c55, c56, c57, c58, c59, c60, c61, c62, c63, c64, c65, c66, c67, c68, c69, c70, c71, c72, c73, c74, c75, c76, c77, c78, c79, c80, c81, c82, c83, c84, c85, c86, c87, c88, c89, c90, c91, c92, c93, c94, c95], []⟩ W := by
  have HB := Lib.hid hB
  obtain ⟨c0, c1, c2⟩ := hc
  have hu : Ie.una ⟨#[43]⟩ a = a := by rfl
  rw [hu]
  clear hB hu
  refine wp_sec 4 cmBody rfl ?_
  conv => arg 2; whnf
  go_wp2_with fail
  refine wp_sec 5 cmBody rfl ?_
  conv => arg 2; whnf
  go_wp2_with fail
  go_ret2
  exact ⟨rfl, HB.out⟩

set_option maxRecDepth 100000 in
set_option maxHeartbeats 4000000 in
theorem cm_uns (w W : World) (hB : Below w.heap.size w W) (B b : Nat) (a : Int) (hc : C3 W B 0 ⟨#[45]⟩ 0 (.slice (some ⟨b, 0, none⟩) 1 1)) (c0 c2 c3 c5 c6 c7 c8 c9 c10 c11 c12 c13 c14 c15 c16 c17 c18 c19 c20 c21 c22 c23 c24 c25 c26 c27 c28 c29 c30 c31 c32 c33 c34 c35 c36 c37 c38 c39 c40 c41 c42 c43 c44 c45 c46 c47 c48 c49 c50 c51 c52 c53 c54 c55 c56 c57 c58 c59 c60 c61 c62 c63 c64 c65 c66 c67 c68 c69 c70 c71 c72 c73 c74 c75 c76 c77 c78 c79 c80 c81 c82 c83 c84 c85 c86 c87 c88 c89 c90 c91 c92 c93 c94 c95 : Value) :
    Code.wp Tryz.prog (secs 4 cmBody) (bodyPost Tryz.prog Tryz.f30 (CmPost (Ie.una ⟨#[45]⟩ a, 0) w)) ⟨#[c0, .pointer (some ⟨B, 0, none⟩), c2, c3, .int .i64 a, c5, c6, c7, c8, c9, c10, c11, c12, c13, c14, c15, c16, c17, c18, c19, c20, c21, c22, c23, c24, c25, c26, c27, c28, c29, c30, c31, c32, c33, c34, c35, c36, c37, c38, c39, c40, c41, c42, c43, c44, c45, c46, c47, c48, c49, c50, c51, c52, c53, c54, c55, c56, c57, c58, c59, c60, c61, c62, c63, c64, c65, c66, c67, c68, c69, c70, c71, c72, c73, c74, c75, c76, c77, c78, c79, c80, c81, c82, c83, c84, c85, c86, c87, c88, c89, c90, c91, c92, c93, c94, c95], []⟩ W := by
  have HB := Lib.hid hB
  obtain ⟨c0, c1, c2⟩ := hc
  have hu : Ie.una ⟨#[45]⟩ a = Ie.w64 (-a) := by show Ie.w64 (0 - a) = _; rw [Int.zero_sub]
  rw [hu]
  clear hB hu
  refine wp_sec 4 cmBody rfl ?_
  conv => arg 2; whnf
  go_wp2_with fail
  refine wp_sec 5 cmBody rfl ?_
  conv => arg 2; whnf
  go_wp2_with fail
  go_ret2
  exact ⟨by rw [← wrap64_w]; rfl, HB.out⟩

set_option maxRecDepth 100000 in
set_option maxHeartbeats 4000000 in
theorem cm_unn (w W : World) (hB : Below w.heap.size w W) (B b : Nat) (a : Int) (hc : C3 W B 0 ⟨#[33]⟩ 0 (.slice (some ⟨b, 0, none⟩) 1 1)) (c0 c2 c3 c5 c6 c7 c8 c9 c10 c11 c12 c13 c14 c15 c16 c17 c18 c19 c20 c21 c22 c23 c24 c25 c26 c27 c28 c29 c30 c31 c32 c33 c34 c35 c36 c37 c38 c39 c40 c41 c42 c43 c44 c45 c46 c47 c48 c49 c50 c51 c52 c53 c54 c55 c56 c57 c58 c59 c60 c61 c62 c63 c64 c65 c66 c67 c68 c69 c70 c71 c72 c73 c74 c75 c76 c77 c78 c79 c80 c81 c82 c83 c84 c85 c86 c87 c88 c89 c90 c91 c92 c93 c94 c95 : Value) :
    Code.wp Tryz.prog (secs 4 cmBody) (bodyPost Tryz.prog Tryz.f30 (CmPost (Ie.una ⟨#[33]⟩ a, 0) w)) ⟨#[c0, .pointer (some ⟨B, 0, none⟩), c2, c3, .int .i64 a, c5, c6, c7, c8, c9, c10, c11, c12, c13, c14, c15, c16, c17, c18, c19, c20, c21, c22, c23, c24, c25, c26, c27, c28, c29, c30, c31, c32, c33, c34, c35, c36, c37, c38, c39, c40, c41, c42, c43, c44, c45, c46, c47, c48, c49, c50, c51, c52, c53, c54, c55, c56, c57, c58, c59, c60, c61, c62, c63, c64, c65, c66, c67, c68, c69, c70, c71, c72, c73, c74, c75, c76, c77, c78, c79, c80, c81, c82, c83, c84, c85, c86, c87, c88, c89, c90, c91, c92, c93, c94, c95], []⟩ W := by
  have HB := Lib.hid hB
  obtain ⟨c0, c1, c2⟩ := hc
  have hu : Ie.una ⟨#[33]⟩ a = Ie.one (decide (a = 0)) := by rfl
  rw [hu]
  clear hB hu
  refine wp_sec 4 cmBody rfl ?_
  conv => arg 2; whnf
  go_wp2_with fail
  refine wp_sec 5 cmBody rfl ?_
  conv => arg 2; whnf
  go_wp2_with fail
  refine (one9_any _ _).mono ?_
  rintro ee w' ⟨rfl, rfl⟩
  go_wp2_with fail
  go_ret2
  exact ⟨rfl, HB.out⟩

set_option maxRecDepth 100000 in
set_option maxHeartbeats 4000000 in
theorem cm_unt (w W : World) (hB : Below w.heap.size w W) (B b : Nat) (a : Int) (hc : C3 W B 0 ⟨#[126]⟩ 0 (.slice (some ⟨b, 0, none⟩) 1 1)) (c0 c2 c3 c5 c6 c7 c8 c9 c10 c11 c12 c13 c14 c15 c16 c17 c18 c19 c20 c21 c22 c23 c24 c25 c26 c27 c28 c29 c30 c31 c32 c33 c34 c35 c36 c37 c38 c39 c40 c41 c42 c43 c44 c45 c46 c47 c48 c49 c50 c51 c52 c53 c54 c55 c56 c57 c58 c59 c60 c61 c62 c63 c64 c65 c66 c67 c68 c69 c70 c71 c72 c73 c74 c75 c76 c77 c78 c79 c80 c81 c82 c83 c84 c85 c86 c87 c88 c89 c90 c91 c92 c93 c94 c95 : Value) :
    Code.wp Tryz.prog (secs 4 cmBody) (bodyPost Tryz.prog Tryz.f30 (CmPost (Ie.una ⟨#[126]⟩ a, 0) w)) ⟨#[c0, .pointer (some ⟨B, 0, none⟩), c2, c3, .int .i64 a, c5, c6, c7, c8, c9, c10, c11, c12, c13, c14, c15, c16, c17, c18, c19, c20, c21, c22, c23, c24, c25, c26, c27, c28, c29, c30, c31, c32, c33, c34, c35, c36, c37, c38, c39, c40, c41, c42, c43, c44, c45, c46, c47, c48, c49, c50, c51, c52, c53, c54, c55, c56, c57, c58, c59, c60, c61, c62, c63, c64, c65, c66, c67, c68, c69, c70, c71, c72, c73, c74, c75, c76, c77, c78, c79, c80, c81, c82, c83, c84, c85, c86, c87, c88, c89, c90, c91, c92, c93, c94, c95], []⟩ W := by
  have HB := Lib.hid hB
  obtain ⟨c0, c1, c2⟩ := hc
  have hu : Ie.una ⟨#[126]⟩ a = Ie.w64 (-1 - a) := by rfl
  rw [hu]
  clear hB hu
  refine wp_sec 4 cmBody rfl ?_
  conv => arg 2; whnf
  go_wp2_with fail
  refine wp_sec 5 cmBody rfl ?_
  conv => arg 2; whnf
  go_wp2_with fail
  go_ret2
  exact ⟨by rw [← wrap64_w]; rfl, HB.out⟩

set_option maxRecDepth 100000 in
set_option maxHeartbeats 4000000 in
theorem cm_asky (w W : World) (hB : Below w.heap.size w W) (B b : Nat) (a : Int) (ha : a ≠ 0) (y : Ie.E) (ok : Nat → Prop) (s2 : ByteArray) (n2 : Int) (k2 : Value) (hc : C3 W B 0 ⟨#[63]⟩ 0 (.slice (some ⟨b, 0, none⟩) 3 3)) (h2c : C3 W b 3 s2 n2 k2) (h2 : Nd ok W y s2 n2 k2) (ih : ComesC y) (c0 c2 c3 c5 c6 c7 c8 c9 c10 c11 c12 c13 c14 c15 c16 c17 c18 c19 c20 c21 c22 c23 c24 c25 c26 c27 c28 c29 c30 c31 c32 c33 c34 c35 c36 c37 c38 c39 c40 c41 c42 c43 c44 c45 c46 c47 c48 c49 c50 c51 c52 c53 c54 c55 c56 c57 c58 c59 c60 c61 c62 c63 c64 c65 c66 c67 c68 c69 c70 c71 c72 c73 c74 c75 c76 c77 c78 c79 c80 c81 c82 c83 c84 c85 c86 c87 c88 c89 c90 c91 c92 c93 c94 c95 : Value) :
    Code.wp Tryz.prog (secs 4 cmBody) (bodyPost Tryz.prog Tryz.f30 (CmPost (Ie.comes y) w)) ⟨#[c0, .pointer (some ⟨B, 0, none⟩), c2, c3, .int .i64 a, c5, c6, c7, c8, c9, c10, c11, c12, c13, c14, c15, c16, c17, c18, c19, c20, c21, c22, c23, c24, c25, c26, c27, c28, c29, c30, c31, c32, c33, c34, c35, c36, c37, c38, c39, c40, c41, c42, c43, c44, c45, c46, c47, c48, c49, c50, c51, c52, c53, c54, c55, c56, c57, c58, c59, c60, c61, c62, c63, c64, c65, c66, c67, c68, c69, c70, c71, c72, c73, c74, c75, c76, c77, c78, c79, c80, c81, c82, c83, c84, c85, c86, c87, c88, c89, c90, c91, c92, c93, c94, c95], []⟩ W := by
  have NY := Lib.hid (ih ok s2 n2 k2 W h2)
  have HB := Lib.hid hB
  obtain ⟨p, hp⟩ : ∃ p, p = Ie.comes y := ⟨_, rfl⟩
  rw [← hp] at NY ⊢
  obtain ⟨v, f⟩ := p
  dsimp only at NY
  obtain ⟨c0, c1, c2⟩ := hc
  obtain ⟨d0, d1, d2⟩ := h2c
  clear hB h2 ih hp
  skip
  refine wp_sec 4 cmBody rfl ?_
  conv => arg 2; whnf
  go_wp2_with fail
  refine NY.out.mono ?_
  rintro ee w2 ⟨rfl, hB2⟩
  have HB2 := Lib.hid (Below.then HB.out hB2)
  clear hB2
  go_wp2_with fail
  go_ret2
  exact ⟨rfl, HB2.out⟩

set_option maxRecDepth 100000 in
set_option maxHeartbeats 4000000 in
theorem cm_askz (w W : World) (hB : Below w.heap.size w W) (B b : Nat) (a : Int) (ha : a = 0) (y : Ie.E) (ok : Nat → Prop) (s2 : ByteArray) (n2 : Int) (k2 : Value) (hc : C3 W B 0 ⟨#[63]⟩ 0 (.slice (some ⟨b, 0, none⟩) 3 3)) (h2c : C3 W b 6 s2 n2 k2) (h2 : Nd ok W y s2 n2 k2) (ih : ComesC y) (c0 c2 c3 c5 c6 c7 c8 c9 c10 c11 c12 c13 c14 c15 c16 c17 c18 c19 c20 c21 c22 c23 c24 c25 c26 c27 c28 c29 c30 c31 c32 c33 c34 c35 c36 c37 c38 c39 c40 c41 c42 c43 c44 c45 c46 c47 c48 c49 c50 c51 c52 c53 c54 c55 c56 c57 c58 c59 c60 c61 c62 c63 c64 c65 c66 c67 c68 c69 c70 c71 c72 c73 c74 c75 c76 c77 c78 c79 c80 c81 c82 c83 c84 c85 c86 c87 c88 c89 c90 c91 c92 c93 c94 c95 : Value) :
    Code.wp Tryz.prog (secs 4 cmBody) (bodyPost Tryz.prog Tryz.f30 (CmPost (Ie.comes y) w)) ⟨#[c0, .pointer (some ⟨B, 0, none⟩), c2, c3, .int .i64 a, c5, c6, c7, c8, c9, c10, c11, c12, c13, c14, c15, c16, c17, c18, c19, c20, c21, c22, c23, c24, c25, c26, c27, c28, c29, c30, c31, c32, c33, c34, c35, c36, c37, c38, c39, c40, c41, c42, c43, c44, c45, c46, c47, c48, c49, c50, c51, c52, c53, c54, c55, c56, c57, c58, c59, c60, c61, c62, c63, c64, c65, c66, c67, c68, c69, c70, c71, c72, c73, c74, c75, c76, c77, c78, c79, c80, c81, c82, c83, c84, c85, c86, c87, c88, c89, c90, c91, c92, c93, c94, c95], []⟩ W := by
  have NY := Lib.hid (ih ok s2 n2 k2 W h2)
  have HB := Lib.hid hB
  obtain ⟨p, hp⟩ : ∃ p, p = Ie.comes y := ⟨_, rfl⟩
  rw [← hp] at NY ⊢
  obtain ⟨v, f⟩ := p
  dsimp only at NY
  obtain ⟨c0, c1, c2⟩ := hc
  obtain ⟨d0, d1, d2⟩ := h2c
  clear hB h2 ih hp
  subst ha
  refine wp_sec 4 cmBody rfl ?_
  conv => arg 2; whnf
  go_wp2_with fail
  refine NY.out.mono ?_
  rintro ee w2 ⟨rfl, hB2⟩
  have HB2 := Lib.hid (Below.then HB.out hB2)
  clear hB2
  go_wp2_with fail
  go_ret2
  exact ⟨rfl, HB2.out⟩

set_option maxRecDepth 100000 in
set_option maxHeartbeats 4000000 in
theorem cm_head0 (x : Ie.E) (ok : Nat → Prop) (s : ByteArray) (m : Nat) (hm : 0 < m) (hm3 : m ≤ 3) (b : Nat) (s1 : ByteArray) (n1 : Int) (k1 : Value) (w : World) (c1 : C3 w b 0 s1 n1 k1) (h1 : Nd ok w x s1 n1 k1) (ih : ComesC x) (P : Int × Int) (he : (Ie.comes x).2 = 0)
    (hcont : ∀ W (c0 c2 c3 c5 c6 c7 c8 c9 c10 c11 c12 c13 c14 c15 c16 c17 c18 c19 c20 c21 c22 c23 c24 c25 c26 c27 c28 c29 c30 c31 c32 c33 c34 c35 c36 c37 c38 c39 c40 c41 c42 c43 c44 c45 c46 c47 c48 c49 c50 c51 c52 c53 c54 c55 c56 c57 c58 c59 c60 c61 c62 c63 c64 c65 c66 c67 c68 c69 c70 c71 c72 c73 c74 c75 c76 c77 c78 c79 c80 c81 c82 c83 c84 c85 c86 c87 c88 c89 c90 c91 c92 c93 c94 c95 : Value), Below w.heap.size w W → C3 W w.heap.size 0 s 0 (.slice (some ⟨b, 0, none⟩) m m) → Code.wp Tryz.prog (secs 4 cmBody) (bodyPost Tryz.prog Tryz.f30 (CmPost P w)) ⟨#[c0, .pointer (some ⟨w.heap.size, 0, none⟩), c2, c3, .int .i64 (Ie.comes x).1, c5, c6, c7, c8, c9, c10, c11, c12, c13, c14, c15, c16, c17, c18, c19, c20, c21, c22, c23, c24, c25, c26, c27, c28, c29, c30, c31, c32, c33, c34, c35, c36, c37, c38, c39, c40, c41, c42, c43, c44, c45, c46, c47, c48, c49, c50, c51, c52, c53, c54, c55, c56, c57, c58, c59, c60, c61, c62, c63, c64, c65, c66, c67, c68, c69, c70, c71, c72, c73, c74, c75, c76, c77, c78, c79, c80, c81, c82, c83, c84, c85, c86, c87, c88, c89, c90, c91, c92, c93, c94, c95], []⟩ W) :
    Calls Tryz.prog 30 #[.agg #[.string s, .int .i64 0, .slice (some ⟨b, 0, none⟩) m m]] w (CmPost P w) := by
  refine cm_head x ok s m hm hm3 b s1 n1 k1 w c1 h1 ih P ?_
  intro W c0 c2 c3 c6 c7 c8 c9 c10 c11 c12 c13 c14 c15 c16 c17 c18 c19 c20 c21 c22 c23 c24 c25 c26 c27 c28 c29 c30 c31 c32 c33 c34 c35 c36 c37 c38 c39 c40 c41 c42 c43 c44 c45 c46 c47 c48 c49 c50 c51 c52 c53 c54 c55 c56 c57 c58 c59 c60 c61 c62 c63 c64 c65 c66 c67 c68 c69 c70 c71 c72 c73 c74 c75 c76 c77 c78 c79 c80 c81 c82 c83 c84 c85 c86 c87 c88 c89 c90 c91 c92 c93 c94 c95 hB hc
  rw [he]
  have HB := Lib.hid hB
  have HC := Lib.hid hc
  have HCO := Lib.hid hcont
  obtain ⟨B, hBB⟩ : ∃ B, B = w.heap.size := ⟨_, rfl⟩
  obtain ⟨a, ha⟩ : ∃ a, a = (Ie.comes x).1 := ⟨_, rfl⟩
  rw [← ha] at HCO ⊢
  have HW := Lib.hid hBB
  rw [← hBB]
  clear hB hc hcont c1 h1 ih he hBB ha
  refine wp_sec 3 cmBody rfl ?_
  conv => arg 2; whnf
  go_wp2_with fail
  rw [HW.out]
  exact HCO.out W _ _ _ _ _ _ _ _ _ _ _ _ _ _ _ _ _ _ _ _ _ _ _ _ _ _ _ _ _ _ _ _ _ _ _ _ _ _ _ _ _ _ _ _ _ _ _ _ _ _ _ _ _ _ _ _ _ _ _ _ _ _ _ _ _ _ _ _ _ _ _ _ _ _ _ _ _ _ _ _ _ _ _ _ _ _ _ _ _ _ _ _ _ _ HB.out HC.out
theorem cm_headE (x : Ie.E) (ok : Nat → Prop) (s : ByteArray) (m : Nat) (hm : 0 < m) (hm3 : m ≤ 3) (b : Nat) (s1 : ByteArray) (n1 : Int) (k1 : Value) (w : World) (c1 : C3 w b 0 s1 n1 k1) (h1 : Nd ok w x s1 n1 k1) (ih : ComesC x) (he : (Ie.comes x).2 ≠ 0) :
    Calls Tryz.prog 30 #[.agg #[.string s, .int .i64 0, .slice (some ⟨b, 0, none⟩) m m]] w (CmPost (0, (Ie.comes x).2) w) :=
  cm_head x ok s m hm hm3 b s1 n1 k1 w c1 h1 ih _ fun W _ _ _ _ _ _ _ _ _ _ _ _ _ _ _ _ _ _ _ _ _ _ _ _ _ _ _ _ _ _ _ _ _ _ _ _ _ _ _ _ _ _ _ _ _ _ _ _ _ _ _ _ _ _ _ _ _ _ _ _ _ _ _ _ _ _ _ _ _ _ _ _ _ _ _ _ _ _ _ _ _ _ _ _ _ _ _ _ _ _ _ _ _ hB _ => cm_err w W hB _ he _ _ _ _ _ _ _ _ _ _ _ _ _ _ _ _ _ _ _ _ _ _ _ _ _ _ _ _ _ _ _ _ _ _ _ _ _ _ _ _ _ _ _ _ _ _ _ _ _ _ _ _ _ _ _ _ _ _ _ _ _ _ _ _ _ _ _ _ _ _ _ _ _ _ _ _ _ _ _ _ _ _ _ _ _ _ _ _ _ _ _ _ _ _ _

theorem comes_of (x : Ie.E) (ih : ∀ y ∈ Ie.kids x, ComesC y) : ComesC x := by
  intro ok s n k w hN
  show Calls _ _ _ _ (CmPost (Ie.comes x) w)
  cases x with
  | num v =>
    obtain ⟨rfl, rfl, rfl, _⟩ := hN
    exact cm_leaf _ _ w
  | bad =>
    obtain ⟨rfl, rfl, rfl⟩ := hN
    exact cm_leaf _ _ w
  | un g x =>
    obtain ⟨rfl, rfl, hg, b, s1, n1, k1, rfl, hb, hq1, h1⟩ := hN
    have i1 := ih x (by simp [Ie.kids])
    by_cases he : (Ie.comes x).2 = 0
    · have e : Ie.comes (.un s x) = (Ie.una s (Ie.comes x).1, 0) := by
        show (if (Ie.comes x).2 ≠ 0 then ((0 : Int), (Ie.comes x).2) else (Ie.una s (Ie.comes x).1, 0)) = _
        rw [if_neg (fun h => h he)]
      rw [e]
      refine cm_head0 x ok s 1 (by decide) (by decide) b s1 n1 k1 w hq1 h1 i1 _ he ?_
      intro W c0 c2 c3 c5 c6 c7 c8 c9 c10 c11 c12 c13 c14 c15 c16 c17 c18 c19 c20 c21 c22 c23 c24 c25 c26 c27 c28 c29 c30 c31 c32 c33 c34 c35 c36 c37 c38 c39 c40 c41 c42 c43 c44 c45 c46 c47 c48 c49 c50 c51 c52 c53 c54 c55 c56 c57 c58 c59 c60 c61 c62 c63 c64 c65 c66 c67 c68 c69 c70 c71 c72 c73 c74 c75 c76 c77 c78 c79 c80 c81 c82 c83 c84 c85 c86 c87 c88 c89 c90 c91 c92 c93 c94 c95 hB hc
      have hs : s = Ie.sAdd ∨ s = Ie.sSub ∨ s = Ie.sNot ∨ s = Ie.sTil := by
        unfold Ie.isUn at hg
        simp only [Bool.or_eq_true, decide_eq_true_iff] at hg
        rcases hg with ((h | h) | h) | h
        · exact .inl h
        · exact .inr (.inl h)
        · exact .inr (.inr (.inl h))
        · exact .inr (.inr (.inr h))
      rcases hs with rfl | rfl | rfl | rfl
      · exact cm_una w W hB _ b _ hc _ _ _ _ _ _ _ _ _ _ _ _ _ _ _ _ _ _ _ _ _ _ _ _ _ _ _ _ _ _ _ _ _ _ _ _ _ _ _ _ _ _ _ _ _ _ _ _ _ _ _ _ _ _ _ _ _ _ _ _ _ _ _ _ _ _ _ _ _ _ _ _ _ _ _ _ _ _ _ _ _ _ _ _ _ _ _ _ _ _ _ _ _ _
      · exact cm_uns w W hB _ b _ hc _ _ _ _ _ _ _ _ _ _ _ _ _ _ _ _ _ _ _ _ _ _ _ _ _ _ _ _ _ _ _ _ _ _ _ _ _ _ _ _ _ _ _ _ _ _ _ _ _ _ _ _ _ _ _ _ _ _ _ _ _ _ _ _ _ _ _ _ _ _ _ _ _ _ _ _ _ _ _ _ _ _ _ _ _ _ _ _ _ _ _ _ _ _
      · exact cm_unn w W hB _ b _ hc _ _ _ _ _ _ _ _ _ _ _ _ _ _ _ _ _ _ _ _ _ _ _ _ _ _ _ _ _ _ _ _ _ _ _ _ _ _ _ _ _ _ _ _ _ _ _ _ _ _ _ _ _ _ _ _ _ _ _ _ _ _ _ _ _ _ _ _ _ _ _ _ _ _ _ _ _ _ _ _ _ _ _ _ _ _ _ _ _ _ _ _ _ _
      · exact cm_unt w W hB _ b _ hc _ _ _ _ _ _ _ _ _ _ _ _ _ _ _ _ _ _ _ _ _ _ _ _ _ _ _ _ _ _ _ _ _ _ _ _ _ _ _ _ _ _ _ _ _ _ _ _ _ _ _ _ _ _ _ _ _ _ _ _ _ _ _ _ _ _ _ _ _ _ _ _ _ _ _ _ _ _ _ _ _ _ _ _ _ _ _ _ _ _ _ _ _ _
    · have e : Ie.comes (.un s x) = (0, (Ie.comes x).2) := by
        show (if (Ie.comes x).2 ≠ 0 then ((0 : Int), (Ie.comes x).2) else (Ie.una s (Ie.comes x).1, 0)) = _
        rw [if_pos he]
      rw [e]
      exact cm_headE x ok s 1 (by decide) (by decide) b s1 n1 k1 w hq1 h1 i1 he
  | bin g x y =>
    have hx : Ie.InR (Ie.comes x).1 := by
      obtain ⟨_, _, _, b, s1, n1, k1, s2, n2, k2, _, _, _, h1, _, _⟩ := hN
      exact comes_in h1
    obtain ⟨rfl, rfl, hg, b, s1, n1, k1, s2, n2, k2, rfl, hb, hq1, h1, hq2, h2⟩ := hN
    have i1 := ih x (by simp [Ie.kids])
    have i2 := ih y (by simp [Ie.kids])
    have e : Ie.comes (.bin s x y) = if (Ie.comes x).2 ≠ 0 then ((0 : Int), (Ie.comes x).2) else match Ie.early s (Ie.comes x).1 with | some n => (n, 0) | none => if (Ie.comes y).2 ≠ 0 then (0, (Ie.comes y).2) else Ie.two s (Ie.comes x).1 (Ie.comes y).1 := rfl
    rw [e]
    by_cases he : (Ie.comes x).2 = 0
    · rw [if_neg (fun h => h he)]
      refine cm_head0 x ok s 2 (by decide) (by decide) b s1 n1 k1 w hq1 h1 i1 _ he ?_
      intro W c0 c2 c3 c5 c6 c7 c8 c9 c10 c11 c12 c13 c14 c15 c16 c17 c18 c19 c20 c21 c22 c23 c24 c25 c26 c27 c28 c29 c30 c31 c32 c33 c34 c35 c36 c37 c38 c39 c40 c41 c42 c43 c44 c45 c46 c47 c48 c49 c50 c51 c52 c53 c54 c55 c56 c57 c58 c59 c60 c61 c62 c63 c64 c65 c66 c67 c68 c69 c70 c71 c72 c73 c74 c75 c76 c77 c78 c79 c80 c81 c82 c83 c84 c85 c86 c87 c88 c89 c90 c91 c92 c93 c94 c95 hB hc
      exact cm_4 w W hB _ b s _ y ok s2 n2 k2 hc (hq2.below hB) (h2.below hB) i2 hx hg _ _ _ _ _ _ _ _ _ _ _ _ _ _ _ _ _ _ _ _ _ _ _ _ _ _ _ _ _ _ _ _ _ _ _ _ _ _ _ _ _ _ _ _ _ _ _ _ _ _ _ _ _ _ _ _ _ _ _ _ _ _ _ _ _ _ _ _ _ _ _ _ _ _ _ _ _ _ _ _ _ _ _ _ _ _ _ _ _ _ _ _ _ _
    · rw [if_pos he]
      exact cm_headE x ok s 2 (by decide) (by decide) b s1 n1 k1 w hq1 h1 i1 he
  | ask x y z =>
    obtain ⟨rfl, rfl, b, s1, n1, k1, s2, n2, k2, s3, n3, k3, rfl, hb, hq1, h1, hq2, h2, hq3, h3⟩ := hN
    have i1 := ih x (by simp [Ie.kids])
    have i2 := ih y (by simp [Ie.kids])
    have i3 := ih z (by simp [Ie.kids])
    have e : Ie.comes (.ask x y z) = if (Ie.comes x).2 ≠ 0 then ((0 : Int), (Ie.comes x).2) else if (Ie.comes x).1 ≠ 0 then Ie.comes y else Ie.comes z := rfl
    rw [e]
    by_cases he : (Ie.comes x).2 = 0
    · rw [if_neg (fun h => h he)]
      refine cm_head0 x ok Ie.sAsk 3 (by decide) (by decide) b s1 n1 k1 w hq1 h1 i1 _ he ?_
      intro W c0 c2 c3 c5 c6 c7 c8 c9 c10 c11 c12 c13 c14 c15 c16 c17 c18 c19 c20 c21 c22 c23 c24 c25 c26 c27 c28 c29 c30 c31 c32 c33 c34 c35 c36 c37 c38 c39 c40 c41 c42 c43 c44 c45 c46 c47 c48 c49 c50 c51 c52 c53 c54 c55 c56 c57 c58 c59 c60 c61 c62 c63 c64 c65 c66 c67 c68 c69 c70 c71 c72 c73 c74 c75 c76 c77 c78 c79 c80 c81 c82 c83 c84 c85 c86 c87 c88 c89 c90 c91 c92 c93 c94 c95 hB hc
      by_cases ha : (Ie.comes x).1 = 0
      · rw [if_neg (fun h => h ha)]
        exact cm_askz w W hB _ b _ ha z ok s3 n3 k3 hc (hq3.below hB) (h3.below hB) i3 _ _ _ _ _ _ _ _ _ _ _ _ _ _ _ _ _ _ _ _ _ _ _ _ _ _ _ _ _ _ _ _ _ _ _ _ _ _ _ _ _ _ _ _ _ _ _ _ _ _ _ _ _ _ _ _ _ _ _ _ _ _ _ _ _ _ _ _ _ _ _ _ _ _ _ _ _ _ _ _ _ _ _ _ _ _ _ _ _ _ _ _ _ _
      · rw [if_pos ha]
        exact cm_asky w W hB _ b _ ha y ok s2 n2 k2 hc (hq2.below hB) (h2.below hB) i2 _ _ _ _ _ _ _ _ _ _ _ _ _ _ _ _ _ _ _ _ _ _ _ _ _ _ _ _ _ _ _ _ _ _ _ _ _ _ _ _ _ _ _ _ _ _ _ _ _ _ _ _ _ _ _ _ _ _ _ _ _ _ _ _ _ _ _ _ _ _ _ _ _ _ _ _ _ _ _ _ _ _ _ _ _ _ _ _ _ _ _ _ _ _
    · rw [if_pos he]
      exact cm_headE x ok Ie.sAsk 3 (by decide) (by decide) b s1 n1 k1 w hq1 h1 i1 he
theorem comes_any : ∀ x, ComesC x := Ie.kid_ind comes_of
end Go.Proofs.YtognifnalfjdgaaGreatDoor

/- What is proved: what tokens come to, by the document (Eval). -/
namespace Go.Proofs.YtognifnalfjdgaaGreatDoor
open Go.RowKit Go.Shelf

theorem Ie.eval_more {l m : List K} {j : Nat} {x : Ie.E} (hm : m = Ie.inLine l) (h : Ie.expr 61 m = some (x, m.drop j)) (hj : j < m.length) : Ie.eval l = (0, 90) := by
  unfold Ie.eval
  rw [← hm, h]
  cases hd : m.drop j with
  | nil => have := congrArg List.length hd; rw [List.length_drop] at this; simp at this; omega
  | cons a r => rfl
theorem Ie.eval_all {l m : List K} {j : Nat} {x : Ie.E} (hm : m = Ie.inLine l) (h : Ie.expr 61 m = some (x, m.drop j)) (hj : j = m.length) : Ie.eval l = if x.isBad then (0, 91) else Ie.comes x := by
  unfold Ie.eval
  rw [← hm, h, List.drop_eq_nil_of_le (by omega)]
theorem Ie.eval_no {l m : List K} (hm : m = Ie.inLine l) (h : Ie.expr 61 m = none) : Ie.eval l = (0, 90) := by
  unfold Ie.eval
  rw [← hm, h]

set_option maxRecDepth 100000 in
set_option maxHeartbeats 8000000 in
theorem reval_any (v : Value) (l : List K) (w : World) (hG : Gv w) (hv : Ks w v l) (hT : Tb l) : Calls Tryz.prog 11 #[v] w (EvalPost w l) := by
  obtain ⟨i0, hi, hz0, hz1, hz2⟩ := info_parts infoTok
  obtain ⟨ad, cap, rfl, h1, h2, -⟩ := id hv
  obtain ⟨n, hn⟩ : ∃ n, n = l.length := ⟨_, rfl⟩
  have hl : n ≤ 1000000 := by rw [hn]; exact hT.1
  rw [← hn] at hv h1
  have HV := Lib.hid hv
  have Hn := Lib.hid hn
  have HG := Lib.hid hG
  have HT := Lib.hid (Ie.inLine_tb hT)
  obtain ⟨E1, hE1⟩ : ∃ a, a = (Ie.eval l).1 := ⟨_, rfl⟩
  obtain ⟨E2, hE2⟩ : ∃ a, a = (Ie.eval l).2 := ⟨_, rfl⟩
  have HE := Lib.hid (show Ie.eval l = (E1, E2) by rw [hE1, hE2])
  unfold EvalPost
  rw [← hn, ← hE1, ← hE2]
  clear hv hn h1 h2 hG hT hE1 hE2
  go_enter Tryz.func11, Tryz.ntmps11
  go_wp2_with fail
  go_loopw [4, 5] (fun o a wr => ∃ (k : Nat), a = .int .i64 k ∧ k ≤ n ∧ wr.ownsRow w.heap.size 54 6 o (Ie.inLine (l.take k)).length (ksCells (Ie.inLine (l.take k))) ∧ Below w.heap.size w wr) (fun _ a _ => n - (intOf a).toNat)
  case atStart => exact ⟨0, rfl, Nat.zero_le _, ⟨by simp [Ie.inLine, ksCells], .inl ⟨rfl, by simp [Ie.inLine]⟩⟩, Below.refl _ _⟩
  case round =>
    obtain ⟨k, rfl, hk, hrow, hB⟩ := hrel
    by_cases hlt : k < n
    · obtain ⟨t, ht⟩ : ∃ t, l[k]? = some t := ⟨_, List.getElem?_eq_getElem (by rw [← Hn.out]; exact hlt)⟩
      obtain ⟨g, o, rfl, -, -, -, hg, hc⟩ := (HV.out.below hB).cells (by rw [← Hn.out]; omega)
      obtain ⟨d0, d1, d2, d3, d4, d5⟩ := hc k t ht
      have HT := Lib.hid (Ie.inLine_take l k t ht)
      have hml : (Ie.inLine (l.take k)).length ≤ k := Nat.le_trans (Ie.inLine_len _) (by rw [List.length_take]; omega)
      have HB := Lib.hid hB
      have hbs := hB.size
      obtain ⟨kd, tx, f, fr, en, bl⟩ := t
      dsimp only at d0 d1 d2 d3 d4 d5
      obtain ⟨m, hm⟩ : ∃ m, m = (Ie.inLine (l.take k)).length := ⟨_, rfl⟩
      obtain ⟨cs, hcs⟩ : ∃ cs, cs = ksCells (Ie.inLine (l.take k)) := ⟨_, rfl⟩
      rw [← hm] at hml
      rw [← hcs, ← hm] at hrow
      have HM := Lib.hid hm
      have HCS := Lib.hid hcs
      have HROW := Lib.hid hrow
      clear ht hB hcs hm hc hrow
      have z1 : (0 : Int) ≤ k := by omega
      have z2 : (k : Int) < n := by omega
      by_cases h7 : kd = 7
      · have HT7 := Lib.hid (HT.out.trans (by rw [if_pos h7, List.append_nil]))
        clear HT
        go_wp2_with fail
        go_roundw
        case rel =>
          refine ⟨k + 1, by go_num, by omega, ?_, HB.out⟩
          rw [HT7.out, ← HM.out, ← HCS.out]
          exact HROW.out
        case measure => simp [intOf]; omega
      · have HT7 := Lib.hid (HT.out.trans (by rw [if_neg h7]))
        clear HT
        go_wp2_with (at_builtin; refine wpList_append_lies _ rfl _ _ 26 rfl w.heap.size 54 i0 _ 6 56 Tryz.underlying26 hi hz0 hz1 hz2 rfl (by decide) _ m cs rfl (HROW.out.alloc _) ⟨wr.heap.size, 0, none⟩ 1 1 (kCells ⟨kd, tx, f, fr, en, bl⟩) rfl rfl (World.news_of_block (cs := #[.int .i64 kd, .string tx, .int .i64 f, .int .i64 fr, .int .i64 en, .bool bl]) (t := 54) (fr := (0, 0)) (heap_alloc_new wr _)) (by simp [Value.oneCell', kCells]) (by decide) (by unfold maxLen; omega) (by omega) (by simp; omega) _ rfl ?_; intro gg cap' w2 hown hgrow hat hlt2)
        go_roundw
        case rel =>
          refine ⟨k + 1, by go_num, by omega, ?_, ?_⟩
          · rw [HT7.out, List.length_append, ksCells_append, ← HM.out, ← HCS.out]; exact hown
          · exact (HB.out.alloc hbs _).grown hgrow (by simp; omega) (fun i e => (HROW.out.lt i e).1)
        case measure => simp [intOf]; omega
    · obtain rfl : k = n := by omega
      rw [List.take_of_length_le (by rw [← Hn.out]; exact Nat.le_refl _)] at hrow
      have hks := Ks.of_row hrow
      obtain ⟨uad, ucap, rfl, -⟩ := id hks
      obtain ⟨m, hm⟩ : ∃ m, m = Ie.inLine l := ⟨_, rfl⟩
      rw [← hm] at hks
      obtain ⟨um, hum⟩ : ∃ um, um = m.length := ⟨_, rfl⟩
      have hT : Tb m := by rw [hm]; exact HT.out
      rw [← hm, ← hum]
      rw [← hm, ← hum] at hrow
      have K1 := Lib.hid (read_any m _ wr (HG.out.later hB) hks hT)
      rw [← hum] at K1
      have HB := Lib.hid hB
      have HM := Lib.hid hm
      have HUM := Lib.hid hum
      have hum2 : um ≤ 1000000 := by rw [hum]; exact hT.1
      clear hrow hB hks hm hum hT
      go_wp2_with fail
      refine K1.out.mono ?_
      rintro en w2 ⟨s, n1, ad1, m1, a, rfl, hB2, hq⟩
      have HB2 := Lib.hid (Below.then HB.out hB2)
      cases hr : Ie.expr 61 m with
      | none =>
        rw [hr] at hq
        obtain rfl : a = -1 := hq
        have hev := Ie.eval_no HM.out hr
        rw [HE.out] at hev
        obtain ⟨rfl, rfl⟩ := Prod.mk.inj hev
        clear hev hr hB2
        have z1 : ¬ ((-1 : Int) = um) := by omega
        go_wp2_with fail
        go_ret2
        exact ⟨rfl, Below.then HB2.out (below_alloc _ _)⟩
      | some p =>
        obtain ⟨x, r⟩ := p
        rw [hr] at hq
        obtain ⟨j, rfl, hj, rfl, hN⟩ := hq
        rcases Nat.lt_or_ge j um with hlt2 | hge
        · have hev := Ie.eval_more HM.out hr (by rw [← HUM.out]; exact hlt2)
          rw [HE.out] at hev
          obtain ⟨rfl, rfl⟩ := Prod.mk.inj hev
          clear hev hr hB2 hN
          have z1 : ¬ ((j : Int) = um) := by omega
          go_wp2_with fail
          go_ret2
          exact ⟨rfl, Below.then HB2.out (below_alloc _ _)⟩
        · obtain rfl : j = um := by have := HUM.out; omega
          have hev := Ie.eval_all HM.out hr HUM.out
          rw [HE.out] at hev
          have HEV := Lib.hid hev
          have HN := Lib.hid hN
          obtain ⟨q, hqq⟩ : ∃ q, q = x.isBad := ⟨_, rfl⟩
          have KB := Lib.hid (bad_any x _ s n1 _ (w2.alloc (.cells #[.string s, .int .i64 n1, .slice ad1 m1 m1] 57)) (hN.alloc _))
          rw [← hqq] at KB HEV
          have HNh := Lib.hid (Nh.new w2 s n1 (.slice ad1 m1 m1))
          have HB2' := Lib.hid (Below.then HB2.out (below_alloc w2 (.cells #[.string s, .int .i64 n1, .slice ad1 m1 m1] 57)))
          have z1 : (0 : Int) ≤ (j : Int) := by omega
          clear hev hr hB2 hN hqq
          go_wp2_with fail
          refine KB.out.mono ?_
          rintro en w3 ⟨rfl, hB3⟩
          have HB3 := Lib.hid (Below.then HB2'.out hB3)
          obtain ⟨c0, c1, c2⟩ := (HNh.out.below hB3).c3
          cases q with
          | true =>
            obtain ⟨rfl, rfl⟩ := Prod.mk.inj (HEV.out.trans (if_pos rfl))
            clear hB3
            go_wp2_with fail
            go_ret2
            exact ⟨rfl, HB3.out⟩
          | false =>
            have hcm : (E1, E2) = Ie.comes x := HEV.out.trans (if_neg (by decide))
            have KC := Lib.hid (comes_any x _ s n1 _ w3 ((HN.out.alloc _).below hB3))
            rw [← hcm] at KC
            clear hB3 hcm
            go_wp2_with fail
            refine KC.out.mono ?_
            rintro en w4 ⟨rfl, hB4⟩
            have HB4 := Lib.hid (Below.then HB3.out hB4)
            clear hB4
            go_wp2_with fail
            go_ret2
            exact ⟨rfl, HB4.out⟩
end Go.Proofs.YtognifnalfjdgaaGreatDoor
