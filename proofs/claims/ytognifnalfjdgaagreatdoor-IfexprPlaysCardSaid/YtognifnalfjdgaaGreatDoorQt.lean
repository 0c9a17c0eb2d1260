/- What is proved: what a text comes to; the chapter's examples are as it says (awake), in whatever memory. (and what stands with it) -/
import Derived.Test.YtognifnalfjdgaaGreatDoorQi
import Derived.Test.YtognifnalfjdgaaGreatDoorQl
import Derived.Test.YtognifnalfjdgaaGreatDoorQr
import Derived.Test.YtognifnalfjdgaaGreatDoorQe
import Derived.Test.YtognifnalfjdgaaGreatDoorQs
import Derived.Laws.StructEq

/- What is proved: what a text comes to; the chapter's examples are as it says (awake), in whatever memory. -/
namespace Go.Proofs.YtognifnalfjdgaaGreatDoor
open Go.RowKit Go.Shelf

theorem Lx.tk_text : ∀ (p : Bool) (l : List Sp.Ch), ∀ t ∈ Lx.tk p l, t.text.length ≤ l.length := by
  refine Lx.tkInd ?_ ?_ ?_
  · intro p t h; simp [Lx.tk_nil] at h
  · intro p l h ih t ht
    rw [Lx.tk_blank p l h] at ht
    have := ih t ht
    rw [List.length_drop] at this
    omega
  · intro p l hl h ih t ht
    have h1 := Lx.first_len l hl
    rw [Lx.tk_tok p l hl h] at ht
    rcases List.mem_cons.1 ht with rfl | ht
    · unfold Lx.tokAt
      dsimp only
      rw [List.length_take]
      omega
    · have := ih t ht
      rw [List.length_drop] at this
      omega
/-- The tokens of a text. -/
def toksK (f : Int) (s : ByteArray) : List K := (Lx.tk false (Sp.left 0 s.data.toList)).map (ofT f)
theorem toksK_tb (f : Int) (s : ByteArray) (hs : s.size ≤ 1000000) : Tb (toksK f s) := by
  have h1 := Sp.left_le 0 s.data.toList
  rw [size_list] at h1
  refine ⟨?_, fun t ht => ?_⟩
  · unfold toksK
    rw [List.length_map]
    have := Lx.tk_length false (Sp.left 0 s.data.toList)
    omega
  · unfold toksK at ht
    obtain ⟨x, hx, rfl⟩ := List.mem_map.1 ht
    have := Lx.tk_text false _ x hx
    show (⟨x.text.toArray⟩ : ByteArray).size ≤ _
    have e : (⟨x.text.toArray⟩ : ByteArray).size = x.text.length := rfl
    omega
theorem tokensK_any (f : Int) (s : ByteArray) (hs : s.size ≤ 1000000) (w : World) (hG : Glob w) : Calls Tryz.prog 10 #[.int .i64 f, .string s] w fun e w' => ∃ v, e = .returned v ∧ Ks w' v (toksK f s) ∧ Below w.heap.size w w' :=
  (tokens_any f s (by omega) w hG).mono fun e w' ⟨v, h1, h2, h3⟩ => ⟨v, h1, h2.ks, h3⟩

namespace Ie
theorem two_err (s : ByteArray) (a b : Int) : 0 ≤ (two s a b).2 ∧ (two s a b).2 ≤ 100 := by
  have key : ∀ (c : Prop) [Decidable c] (p q : Int × Int), (0 ≤ p.2 ∧ p.2 ≤ 100) → (0 ≤ q.2 ∧ q.2 ≤ 100) → 0 ≤ (if c then p else q).2 ∧ (if c then p else q).2 ≤ 100 := fun c _ p q hp hq => by
    split
    · exact hp
    · exact hq
  unfold two
  repeat' (first | exact ⟨Int.le_refl 0, (show (0 : Int) ≤ 100 by decide)⟩ | exact ⟨by decide, by decide⟩ | refine key _ _ _ ?_ ?_)
theorem comes_err : ∀ x : E, 0 ≤ (comes x).2 ∧ (comes x).2 ≤ 100
  | .num n => ⟨Int.le_refl 0, by show (0 : Int) ≤ 100; decide⟩
  | .bad => ⟨Int.le_refl 0, by show (0 : Int) ≤ 100; decide⟩
  | .un s x => by
    have h := comes_err x
    unfold comes
    split
    · exact h
    · exact ⟨Int.le_refl 0, by show (0 : Int) ≤ 100; decide⟩
  | .bin s x y => by
    have h := comes_err x
    have h' := comes_err y
    unfold comes
    split
    · exact h
    · split
      · exact ⟨Int.le_refl 0, by show (0 : Int) ≤ 100; decide⟩
      · split
        · exact h'
        · exact two_err _ _ _
  | .ask x y z => by
    have h := comes_err x
    have h' := comes_err y
    have h'' := comes_err z
    unfold comes
    split
    · exact h
    · split
      · exact h'
      · exact h''
theorem eval_err (l : List K) : 0 ≤ (eval l).2 ∧ (eval l).2 ≤ 100 := by
  unfold eval
  split
  · split
    · exact ⟨by decide, by decide⟩
    · exact comes_err _
  · exact ⟨by decide, by decide⟩
/-- What the law makes of a value and an error. -/
def said (p : Int × Int) : Int := if p.2 ≠ 0 then -1000 - p.2 else p.1
def evx (s : ByteArray) : Int := said (eval (toksK 0 s))
end Ie
def IntPost (n : Int) (w : World) (e : Ending) (w' : World) : Prop := e = .returned (.int .i64 n) ∧ Below w.heap.size w w'

theorem ieval_ks (v : Value) (l : List K) (w : World) (hG : Gv w) (hv : Ks w v l) (hT : Tb l) : Calls Tryz.prog 9 #[v] w (EvalPost w l) := ieval_any inumber_any iquote_any v l w hG hv hT
set_option maxRecDepth 100000 in
theorem evx_any (s : ByteArray) (hs : s.size ≤ 1000000) (w : World) (hG : Gv w) : Calls Tryz.prog 21 #[.string s] w (IntPost (Ie.evx s) w) := by
  have K1 := Lib.hid (tokensK_any 0 s hs w hG.1)
  have HT := Lib.hid (toksK_tb 0 s hs)
  have he := Ie.eval_err (toksK 0 s)
  have HEV := Lib.hid (show Ie.evx s = Ie.said (Ie.eval (toksK 0 s)) from rfl)
  obtain ⟨l, hl⟩ : ∃ l, l = toksK 0 s := ⟨_, rfl⟩
  rw [← hl] at K1 HT he HEV
  have HG := Lib.hid hG
  clear hl hG hs
  go_enter Tryz.func21, Tryz.ntmps21
  go_wp2_with fail
  refine K1.out.mono ?_
  rintro e w2 ⟨v, rfl, hv, hB2⟩
  have K2 := Lib.hid (ieval_ks v l w2 (HG.out.later hB2) hv HT.out)
  have HB2 := Lib.hid hB2
  clear hv hB2
  unfold EvalPost at K2
  obtain ⟨p, hp⟩ : ∃ p, p = Ie.eval l := ⟨_, rfl⟩
  rw [← hp] at K2 he HEV
  obtain ⟨x, y⟩ := p
  dsimp only at K2 he
  obtain ⟨he0, he1⟩ := he
  clear hp
  go_wp2_with fail
  refine K2.out.mono ?_
  rintro e w3 ⟨rfl, hB3⟩
  by_cases hy : y = 0
  · go_wp2_with fail
    go_ret
    refine ⟨?_, Below.then HB2.out hB3⟩
    rw [HEV.out]
    unfold Ie.said
    rw [if_neg (fun h => h hy)]
    rfl
  · go_wp2_with fail
    go_ret
    refine ⟨?_, Below.then HB2.out hB3⟩
    rw [HEV.out]
    unfold Ie.said
    rw [if_pos hy]
    rfl

theorem ex9_0 : Ie.evx ⟨#[49, 32, 43, 32, 50, 32, 42, 32, 51]⟩ = 7 := by kernel_rfl
theorem ex9_1 : Ie.evx ⟨#[40, 49, 32, 43, 32, 50, 41, 32, 42, 32, 51]⟩ = 9 := by kernel_rfl
theorem ex9_2 : Ie.evx ⟨#[45, 55, 32, 47, 32, 50]⟩ = -3 := by kernel_rfl
theorem ex9_3 : Ie.evx ⟨#[45, 55, 32, 37, 32, 50]⟩ = -1 := by kernel_rfl
theorem ex9_4 : Ie.evx ⟨#[49, 32, 124, 124, 32, 49, 32, 47, 32, 48]⟩ = 1 := by kernel_rfl
theorem ex9_5 : Ie.evx ⟨#[49, 32, 47, 32, 48]⟩ = -1092 := by kernel_rfl
theorem ex9_6 : Ie.evx ⟨#[48, 32, 63, 32, 49, 47, 48, 32, 58, 32, 53]⟩ = 5 := by kernel_rfl
theorem ex9_7 : Ie.evx ⟨#[88, 32, 61, 61, 32, 48, 32, 38, 38, 32, 39, 97, 39, 32, 61, 61, 32, 57, 55]⟩ = 1 := by kernel_rfl
theorem ex9_8 : Ie.evx ⟨#[48, 120, 49, 48, 117]⟩ = 16 := by kernel_rfl
theorem ex9_9 : Ie.evx ⟨#[48, 56]⟩ = -1091 := by kernel_rfl
theorem ex9_10 : Ie.evx ⟨#[49, 32, 60, 60, 32, 54, 52]⟩ = -1093 := by kernel_rfl
theorem ex9_11 : Ie.evx ⟨#[49, 32, 43]⟩ = -1090 := by kernel_rfl
theorem ex9_12 : Ie.evx ⟨#[]⟩ = -1090 := by kernel_rfl
theorem ex9_13 : Ie.evx ⟨#[49, 32, 63, 32, 50, 32, 58, 32, 48, 32, 63, 32, 51, 32, 58, 32, 52]⟩ = 2 := by kernel_rfl
noncomputable def aw9Body : Code := Tryz.f8.body.getD .skip

set_option maxRecDepth 100000 in
set_option maxHeartbeats 4000000 in
theorem aw9_4 (w W : World) (_ : Gv w) (hB : Below w.heap.size w W) (c0 c4 c5 c6 c7 c8 c9 c10 c11 c12 c13 c14 c15 c16 c17 c18 c19 c20 c21 c22 c23 c24 c25 c26 c27 c28 c29 c30 c31 c32 c33 c34 c35 c36 c37 c38 c39 c40 c41 c42 c43 c44 c45 c46 c47 c48 c49 c50 c51 c52 c53 c54 c55 c56 c57 c58 c59 c60 : Value) :
    Code.wp Tryz.prog (secs 4 aw9Body) (bodyPost Tryz.prog Tryz.f8 (TruePost w)) ⟨#[c0, .bool true, .bool true, .bool true, c4, c5, c6, c7, c8, c9, c10, c11, c12, c13, c14, c15, c16, c17, c18, c19, c20, c21, c22, c23, c24, c25, c26, c27, c28, c29, c30, c31, c32, c33, c34, c35, c36, c37, c38, c39, c40, c41, c42, c43, c44, c45, c46, c47, c48, c49, c50, c51, c52, c53, c54, c55, c56, c57, c58, c59, c60], []⟩ W := by
  have HB := Lib.hid hB
  clear hB
  refine wp_sec 4 aw9Body rfl ?_
  conv => arg 2; whnf
  go_wp2_with fail
  conv => arg 2; whnf
  go_wp2_with fail
  go_ret
  exact ⟨rfl, HB.out⟩

set_option maxRecDepth 100000 in
set_option maxHeartbeats 4000000 in
theorem aw9_3 (w W : World) (hG : Gv w) (hB : Below w.heap.size w W) (c0 c3 c4 c5 c6 c7 c8 c9 c10 c11 c12 c13 c14 c15 c16 c17 c18 c19 c20 c21 c22 c23 c24 c25 c26 c27 c28 c29 c30 c31 c32 c33 c34 c35 c36 c37 c38 c39 c40 c41 c42 c43 c44 c45 c46 c47 c48 c49 c50 c51 c52 c53 c54 c55 c56 c57 c58 c59 c60 : Value) :
    Code.wp Tryz.prog (secs 3 aw9Body) (bodyPost Tryz.prog Tryz.f8 (TruePost w)) ⟨#[c0, .bool true, .bool true, c3, c4, c5, c6, c7, c8, c9, c10, c11, c12, c13, c14, c15, c16, c17, c18, c19, c20, c21, c22, c23, c24, c25, c26, c27, c28, c29, c30, c31, c32, c33, c34, c35, c36, c37, c38, c39, c40, c41, c42, c43, c44, c45, c46, c47, c48, c49, c50, c51, c52, c53, c54, c55, c56, c57, c58, c59, c60], []⟩ W := by
  have HG := Lib.hid hG
  have HB0 := Lib.hid hB
  clear hB hG
  have K0 : Hid (∀ W, Below w.heap.size w W → Calls Tryz.prog 21 #[.string ⟨#[48, 120, 49, 48, 117]⟩] W (IntPost (16) W)) := Lib.hid fun W h => by rw [← ex9_8]; exact evx_any _ (by decide) W (HG.out.later h)
  have K1 : Hid (∀ W, Below w.heap.size w W → Calls Tryz.prog 21 #[.string ⟨#[48, 56]⟩] W (IntPost (-1091) W)) := Lib.hid fun W h => by rw [← ex9_9]; exact evx_any _ (by decide) W (HG.out.later h)
  have K2 : Hid (∀ W, Below w.heap.size w W → Calls Tryz.prog 21 #[.string ⟨#[49, 32, 60, 60, 32, 54, 52]⟩] W (IntPost (-1093) W)) := Lib.hid fun W h => by rw [← ex9_10]; exact evx_any _ (by decide) W (HG.out.later h)
  have K3 : Hid (∀ W, Below w.heap.size w W → Calls Tryz.prog 21 #[.string ⟨#[49, 32, 43]⟩] W (IntPost (-1090) W)) := Lib.hid fun W h => by rw [← ex9_11]; exact evx_any _ (by decide) W (HG.out.later h)
  have K4 : Hid (∀ W, Below w.heap.size w W → Calls Tryz.prog 21 #[.string ⟨#[]⟩] W (IntPost (-1090) W)) := Lib.hid fun W h => by rw [← ex9_12]; exact evx_any _ (by decide) W (HG.out.later h)
  have K5 : Hid (∀ W, Below w.heap.size w W → Calls Tryz.prog 21 #[.string ⟨#[49, 32, 63, 32, 50, 32, 58, 32, 48, 32, 63, 32, 51, 32, 58, 32, 52]⟩] W (IntPost (2) W)) := Lib.hid fun W h => by rw [← ex9_13]; exact evx_any _ (by decide) W (HG.out.later h)
  refine wp_sec 3 aw9Body rfl ?_
  conv => arg 2; whnf
  go_wp2_with fail
  refine (K0.out _ HB0.out).mono ?_
  rintro e w1 ⟨rfl, hB1⟩
  have HB1 := Lib.hid (Below.then HB0.out hB1)
  clear hB1
  go_wp2_with fail
  refine (K1.out _ HB1.out).mono ?_
  rintro e w2 ⟨rfl, hB2⟩
  have HB2 := Lib.hid (Below.then HB1.out hB2)
  clear hB2
  go_wp2_with fail
  refine (K2.out _ HB2.out).mono ?_
  rintro e w3 ⟨rfl, hB3⟩
  have HB3 := Lib.hid (Below.then HB2.out hB3)
  clear hB3
  go_wp2_with fail
  refine (K3.out _ HB3.out).mono ?_
  rintro e w4 ⟨rfl, hB4⟩
  have HB4 := Lib.hid (Below.then HB3.out hB4)
  clear hB4
  go_wp2_with fail
  refine (K4.out _ HB4.out).mono ?_
  rintro e w5 ⟨rfl, hB5⟩
  have HB5 := Lib.hid (Below.then HB4.out hB5)
  clear hB5
  go_wp2_with fail
  refine (K5.out _ HB5.out).mono ?_
  rintro e w6 ⟨rfl, hB6⟩
  have HB6 := Lib.hid (Below.then HB5.out hB6)
  clear hB6
  go_wp2_with fail
  exact aw9_4 w _ HG.out HB6.out _ _ _ _ _ _ _ _ _ _ _ _ _ _ _ _ _ _ _ _ _ _ _ _ _ _ _ _ _ _ _ _ _ _ _ _ _ _ _ _ _ _ _ _ _ _ _ _ _ _ _ _ _ _ _ _ _ _

set_option maxRecDepth 100000 in
set_option maxHeartbeats 4000000 in
theorem aw9_2 (w W : World) (hG : Gv w) (hB : Below w.heap.size w W) (c0 c2 c3 c4 c5 c6 c7 c8 c9 c10 c11 c12 c13 c14 c15 c16 c17 c18 c19 c20 c21 c22 c23 c24 c25 c26 c27 c28 c29 c30 c31 c32 c33 c34 c35 c36 c37 c38 c39 c40 c41 c42 c43 c44 c45 c46 c47 c48 c49 c50 c51 c52 c53 c54 c55 c56 c57 c58 c59 c60 : Value) :
    Code.wp Tryz.prog (secs 2 aw9Body) (bodyPost Tryz.prog Tryz.f8 (TruePost w)) ⟨#[c0, .bool true, c2, c3, c4, c5, c6, c7, c8, c9, c10, c11, c12, c13, c14, c15, c16, c17, c18, c19, c20, c21, c22, c23, c24, c25, c26, c27, c28, c29, c30, c31, c32, c33, c34, c35, c36, c37, c38, c39, c40, c41, c42, c43, c44, c45, c46, c47, c48, c49, c50, c51, c52, c53, c54, c55, c56, c57, c58, c59, c60], []⟩ W := by
  have HG := Lib.hid hG
  have HB0 := Lib.hid hB
  clear hB hG
  have K0 : Hid (∀ W, Below w.heap.size w W → Calls Tryz.prog 21 #[.string ⟨#[49, 32, 124, 124, 32, 49, 32, 47, 32, 48]⟩] W (IntPost (1) W)) := Lib.hid fun W h => by rw [← ex9_4]; exact evx_any _ (by decide) W (HG.out.later h)
  have K1 : Hid (∀ W, Below w.heap.size w W → Calls Tryz.prog 21 #[.string ⟨#[49, 32, 47, 32, 48]⟩] W (IntPost (-1092) W)) := Lib.hid fun W h => by rw [← ex9_5]; exact evx_any _ (by decide) W (HG.out.later h)
  have K2 : Hid (∀ W, Below w.heap.size w W → Calls Tryz.prog 21 #[.string ⟨#[48, 32, 63, 32, 49, 47, 48, 32, 58, 32, 53]⟩] W (IntPost (5) W)) := Lib.hid fun W h => by rw [← ex9_6]; exact evx_any _ (by decide) W (HG.out.later h)
  have K3 : Hid (∀ W, Below w.heap.size w W → Calls Tryz.prog 21 #[.string ⟨#[88, 32, 61, 61, 32, 48, 32, 38, 38, 32, 39, 97, 39, 32, 61, 61, 32, 57, 55]⟩] W (IntPost (1) W)) := Lib.hid fun W h => by rw [← ex9_7]; exact evx_any _ (by decide) W (HG.out.later h)
  refine wp_sec 2 aw9Body rfl ?_
  conv => arg 2; whnf
  go_wp2_with fail
  refine (K0.out _ HB0.out).mono ?_
  rintro e w1 ⟨rfl, hB1⟩
  have HB1 := Lib.hid (Below.then HB0.out hB1)
  clear hB1
  go_wp2_with fail
  refine (K1.out _ HB1.out).mono ?_
  rintro e w2 ⟨rfl, hB2⟩
  have HB2 := Lib.hid (Below.then HB1.out hB2)
  clear hB2
  go_wp2_with fail
  refine (K2.out _ HB2.out).mono ?_
  rintro e w3 ⟨rfl, hB3⟩
  have HB3 := Lib.hid (Below.then HB2.out hB3)
  clear hB3
  go_wp2_with fail
  refine (K3.out _ HB3.out).mono ?_
  rintro e w4 ⟨rfl, hB4⟩
  have HB4 := Lib.hid (Below.then HB3.out hB4)
  clear hB4
  go_wp2_with fail
  exact aw9_3 w _ HG.out HB4.out _ _ _ _ _ _ _ _ _ _ _ _ _ _ _ _ _ _ _ _ _ _ _ _ _ _ _ _ _ _ _ _ _ _ _ _ _ _ _ _ _ _ _ _ _ _ _ _ _ _ _ _ _ _ _ _ _ _ _

set_option maxRecDepth 100000 in
set_option maxHeartbeats 4000000 in
theorem aw9_1 (w W : World) (hG : Gv w) (hB : Below w.heap.size w W) (c0 c1 c2 c3 c4 c5 c6 c7 c8 c9 c10 c11 c12 c13 c14 c15 c16 c17 c18 c19 c20 c21 c22 c23 c24 c25 c26 c27 c28 c29 c30 c31 c32 c33 c34 c35 c36 c37 c38 c39 c40 c41 c42 c43 c44 c45 c46 c47 c48 c49 c50 c51 c52 c53 c54 c55 c56 c57 c58 c59 c60 : Value) :
    Code.wp Tryz.prog (secs 1 aw9Body) (bodyPost Tryz.prog Tryz.f8 (TruePost w)) ⟨#[c0, c1, c2, c3, c4, c5, c6, c7, c8, c9, c10, c11, c12, c13, c14, c15, c16, c17, c18, c19, c20, c21, c22, c23, c24, c25, c26, c27, c28, c29, c30, c31, c32, c33, c34, c35, c36, c37, c38, c39, c40, c41, c42, c43, c44, c45, c46, c47, c48, c49, c50, c51, c52, c53, c54, c55, c56, c57, c58, c59, c60], []⟩ W := by
  have HG := Lib.hid hG
  have HB0 := Lib.hid hB
  clear hB hG
  have K0 : Hid (∀ W, Below w.heap.size w W → Calls Tryz.prog 21 #[.string ⟨#[49, 32, 43, 32, 50, 32, 42, 32, 51]⟩] W (IntPost (7) W)) := Lib.hid fun W h => by rw [← ex9_0]; exact evx_any _ (by decide) W (HG.out.later h)
  have K1 : Hid (∀ W, Below w.heap.size w W → Calls Tryz.prog 21 #[.string ⟨#[40, 49, 32, 43, 32, 50, 41, 32, 42, 32, 51]⟩] W (IntPost (9) W)) := Lib.hid fun W h => by rw [← ex9_1]; exact evx_any _ (by decide) W (HG.out.later h)
  have K2 : Hid (∀ W, Below w.heap.size w W → Calls Tryz.prog 21 #[.string ⟨#[45, 55, 32, 47, 32, 50]⟩] W (IntPost (-3) W)) := Lib.hid fun W h => by rw [← ex9_2]; exact evx_any _ (by decide) W (HG.out.later h)
  have K3 : Hid (∀ W, Below w.heap.size w W → Calls Tryz.prog 21 #[.string ⟨#[45, 55, 32, 37, 32, 50]⟩] W (IntPost (-1) W)) := Lib.hid fun W h => by rw [← ex9_3]; exact evx_any _ (by decide) W (HG.out.later h)
  refine wp_sec 1 aw9Body rfl ?_
  conv => arg 2; whnf
  go_wp2_with fail
  refine (K0.out _ HB0.out).mono ?_
  rintro e w1 ⟨rfl, hB1⟩
  have HB1 := Lib.hid (Below.then HB0.out hB1)
  clear hB1
  go_wp2_with fail
  refine (K1.out _ HB1.out).mono ?_
  rintro e w2 ⟨rfl, hB2⟩
  have HB2 := Lib.hid (Below.then HB1.out hB2)
  clear hB2
  go_wp2_with fail
  refine (K2.out _ HB2.out).mono ?_
  rintro e w3 ⟨rfl, hB3⟩
  have HB3 := Lib.hid (Below.then HB2.out hB3)
  clear hB3
  go_wp2_with fail
  refine (K3.out _ HB3.out).mono ?_
  rintro e w4 ⟨rfl, hB4⟩
  have HB4 := Lib.hid (Below.then HB3.out hB4)
  clear hB4
  go_wp2_with fail
  exact aw9_2 w _ HG.out HB4.out _ _ _ _ _ _ _ _ _ _ _ _ _ _ _ _ _ _ _ _ _ _ _ _ _ _ _ _ _ _ _ _ _ _ _ _ _ _ _ _ _ _ _ _ _ _ _ _ _ _ _ _ _ _ _ _ _ _ _ _

set_option maxRecDepth 100000 in
theorem awake9_any (w : World) (hG : Gv w) : Calls Tryz.prog 8 #[] w (TruePost w) := by
  go_enter Tryz.func8, Tryz.ntmps8
  show Code.wp Tryz.prog (secs 0 aw9Body) _ _ _
  refine wp_sec 0 aw9Body rfl ?_
  conv => arg 2; whnf
  go_wp2_with fail
  exact aw9_1 w w hG (Below.refl _ w) _ _ _ _ _ _ _ _ _ _ _ _ _ _ _ _ _ _ _ _ _ _ _ _ _ _ _ _ _ _ _ _ _ _ _ _ _ _ _ _ _ _ _ _ _ _ _ _ _ _ _ _ _ _ _ _ _ _ _ _ _
end Go.Proofs.YtognifnalfjdgaaGreatDoor

/- What is proved: what the document's own Same and Alike tell of tokens. -/
namespace Go.Proofs.YtognifnalfjdgaaGreatDoor
open Go.RowKit Go.Shelf
open Lx (T)

set_option maxRecDepth 100000 in
set_option maxHeartbeats 4000000 in
theorem same_any (v u : Value) (f : Int) (ts : List T) (w : World) (hv : Toks w v f ts) (hu : Toks w u f ts) (hl : ts.length ≤ 1000000000) :
    Calls Tryz.prog 19 #[v, u] w fun e w' => e = .returned (.bool true) ∧ Below w.heap.size w w' := by
  obtain ⟨ad, cap, rfl, -⟩ := id hv
  obtain ⟨ad', cap', rfl, -⟩ := id hu
  rcases Nat.eq_zero_or_pos ts.length with h0 | hpos
  · obtain rfl : ts = [] := List.length_eq_zero_iff.1 h0
    clear hv hu
    go_enter Tryz.func19, Tryz.ntmps19
    go_wp2_with fail
    go_loop [5] (fun i => i = .int .i64 0) (fun _ => 0)
    case atStart => exact rfl
    case round =>
      obtain rfl := hrel
      go_wp2_with fail
      go_ret
      exact ⟨rfl, Below.refl _ _⟩
  · obtain ⟨g, o, rfl, -, hcap, hmax, hg, hc⟩ := hv.cells hpos
    obtain ⟨g', o', rfl, -, hcap', hmax', hg', hc'⟩ := hu.cells hpos
    unfold maxLen at hmax hmax'
    obtain ⟨n, hn⟩ : ∃ n, n = ts.length := ⟨_, rfl⟩
    rw [← hn] at hl hcap hpos hcap'
    rw [← hn]
    have Hn := Lib.hid hn
    have HC := Lib.hid hc
    have HC' := Lib.hid hc'
    clear hn hc hc' hv hu
    go_enter Tryz.func19, Tryz.ntmps19
    go_wp2_with fail
    go_loopw [5] (fun i wr => ∃ k : Nat, i = .int .i64 k ∧ k ≤ n ∧ Below w.heap.size w wr) (fun i _ => n - (intOf i).toNat)
    case atStart => exact ⟨0, rfl, Nat.zero_le _, Below.refl _ _⟩
    case round =>
      obtain ⟨k, rfl, hk, hB⟩ := hrel
      have hsB := hB.size
      by_cases hlt : k < n
      · obtain ⟨t, ht⟩ : ∃ t, ts[k]? = some t := ⟨_, List.getElem?_eq_getElem (by rw [← Hn.out]; exact hlt)⟩
        obtain ⟨d0, d1, d2, d3, d4, d5⟩ := (HC.out k t ht).below hB hg
        obtain ⟨x0, x1, x2, x3, x4, x5⟩ := (HC'.out k t ht).below hB hg'
        obtain ⟨tx, htx⟩ : ∃ tx : ByteArray, tx = ⟨t.text.toArray⟩ := ⟨_, rfl⟩
        rw [← htx] at d1 x1
        have hq : ∀ W, (Op.equalIn 10000 54 (.agg #[.int .i64 t.kind, .string tx, .int .i64 f, .int .i64 t.fr, .int .i64 t.to, .bool t.bl]) (.agg #[.int .i64 t.kind, .string tx, .int .i64 f, .int .i64 t.fr, .int .i64 t.to, .bool t.bl])).run Tryz.prog W = .ok true W := fun W => run_sameTok _ _ _ _ _ _ W
        have z1 : (0 : Int) ≤ k := by omega
        have z2 : (k : Int) < n := by omega
        clear ht htx
        go_wp2_with fail
        go_quiet (fail)
        go_wp2_with fail
        go_roundw
        case rel => exact ⟨k + 1, by go_num, by omega, below_drewN hB _⟩
        case measure => simp [intOf]; omega
      · go_wp2_with fail
        go_ret
        exact ⟨rfl, hB⟩

end Go.Proofs.YtognifnalfjdgaaGreatDoor

/- What is proved: lists of the same tokens are the same by the document. -/
namespace Go.Proofs.YtognifnalfjdgaaGreatDoor
open Go.RowKit Go.Shelf

set_option maxRecDepth 100000 in
set_option maxHeartbeats 4000000 in
theorem sameK_any (v u : Value) (l : List K) (w : World) (hv : Ks w v l) (hu : Ks w u l) (hl : l.length ≤ 1000000000) :
    Calls Tryz.prog 19 #[v, u] w (TruePost w) := by
  obtain ⟨ad, cap, rfl, -⟩ := id hv
  obtain ⟨bd, dap, rfl, -⟩ := id hu
  rcases Nat.eq_zero_or_pos l.length with h0 | hpos
  · obtain rfl : l = [] := List.length_eq_zero_iff.1 h0
    clear hv hu
    go_enter Tryz.func19, Tryz.ntmps19
    go_wp2_with fail
    go_loop [5] (fun i => i = .int .i64 0) (fun _ => 0)
    case atStart => exact rfl
    case round =>
      obtain rfl := hrel
      go_wp2_with fail
      go_ret
      exact ⟨rfl, Below.refl _ _⟩
  · obtain ⟨g, o, rfl, -, hcap, hmax, hg, hc⟩ := hv.cells hpos
    obtain ⟨g', o', rfl, -, hcap', hmax', hg', hc'⟩ := hu.cells hpos
    unfold maxLen at hmax hmax'
    obtain ⟨n, hn⟩ : ∃ n, n = l.length := ⟨_, rfl⟩
    rw [← hn] at hl hcap hpos hcap'
    rw [← hn]
    have Hn := Lib.hid hn
    have HC := Lib.hid hc
    have HC' := Lib.hid hc'
    clear hn hc hc' hv hu
    go_enter Tryz.func19, Tryz.ntmps19
    go_wp2_with fail
    go_loopw [5] (fun i wr => ∃ k : Nat, i = .int .i64 k ∧ k ≤ n ∧ Below w.heap.size w wr) (fun i _ => n - (intOf i).toNat)
    case atStart => exact ⟨0, rfl, Nat.zero_le _, Below.refl _ _⟩
    case round =>
      obtain ⟨k, rfl, hk, hB⟩ := hrel
      have hsB := hB.size
      by_cases hlt : k < n
      · obtain ⟨t, ht⟩ : ∃ t, l[k]? = some t := ⟨_, List.getElem?_eq_getElem (by rw [← Hn.out]; exact hlt)⟩
        obtain ⟨d0, d1, d2, d3, d4, d5⟩ := (HC.out k t ht).below hB hg
        obtain ⟨x0, x1, x2, x3, x4, x5⟩ := (HC'.out k t ht).below hB hg'
        have hq : ∀ W, (Op.equalIn 10000 54 (.agg #[.int .i64 t.kind, .string t.text, .int .i64 t.file, .int .i64 t.fr, .int .i64 t.en, .bool t.bl]) (.agg #[.int .i64 t.kind, .string t.text, .int .i64 t.file, .int .i64 t.fr, .int .i64 t.en, .bool t.bl])).run Tryz.prog W = .ok true W := fun W => run_sameTok _ _ _ _ _ _ W
        have z1 : (0 : Int) ≤ k := by omega
        have z2 : (k : Int) < n := by omega
        clear ht
        go_wp2_with fail
        go_quiet (fail)
        go_wp2_with fail
        go_roundw
        case rel => exact ⟨k + 1, by go_num, by omega, below_drewN hB _⟩
        case measure => simp [intOf]; omega
      · go_wp2_with fail
        go_ret
        exact ⟨rfl, hB⟩
end Go.Proofs.YtognifnalfjdgaaGreatDoor

/- The document's own Tokens, what tpl8 had left out. -/
namespace Go.Proofs.YtognifnalfjdgaaGreatDoor
open Go.RowKit Go.Shelf
open Lx (T)
set_option maxRecDepth 100000 in
set_option maxHeartbeats 1000000 in
theorem refjoin_row (s : ByteArray) (hs : s.size ≤ 4000000000) (w : World) :
    Calls Tryz.prog 31 #[.string s] w fun e W' => ∃ v, e = .returned v ∧ W'.ownsRow w.heap.size 52 2 v (Sp.left 0 s.data.toList).length (cellsC (Sp.left 0 s.data.toList)) ∧ Below w.heap.size w W' := by
  obtain ⟨i0, hi, hz0, hz1, hz2⟩ := info_parts info37
  have hfull := Sp.left_le 0 s.data.toList
  rw [size_list] at hfull
  go_enter Tryz.func31, Tryz.ntmps31
  go_wp2_with fail
  go_loopw [3, 4] (fun v i wr => ∃ (k : Nat) (pre : List Sp.Ch), i = .int .i64 k ∧ Split s.data.toList k pre ∧ wr.ownsRow w.heap.size 52 2 v pre.length (cellsC pre) ∧ Below w.heap.size w wr) (fun _ i _ => s.size - (intOf i).toNat)
  case atStart => exact ⟨0, [], rfl, split_start _, World.ownsRow_nil _ _ _ _, Below.refl _ _⟩
  case round =>
    obtain ⟨k, pre, rfl, hsp, hrow, hB⟩ := hrel
    have hsB := hB.size
    have hkl := hsp.1
    rw [size_list] at hkl
    by_cases hlt : k < s.size
    · have hlt' : k < s.data.toList.length := by rw [size_list]; exact hlt
      cases hp : Lib.hasPrefix (s.data.toList.drop k) [92, 10] with
      | true =>
        obtain ⟨h2, hsp2⟩ := split_pair hsp hp
        rw [size_list] at h2
        obtain ⟨q1, q2⟩ := (pair_at s k (by omega)).1 hp
        have e1 : ((s[k].toNat : Int) == 92) = true := by rw [q1]; rfl
        have e2 : ((s[k + 1].toNat : Int) == 10) = true := by rw [q2]; rfl
        have e3 : k + 1 < s.size := by omega
        clear hp q1 q2
        go_wp2_with fail
        go_roundw
        case rel => exact ⟨k + 2, pre, by go_num, hsp2, hrow, hB⟩
        case measure => simp [intOf]; omega
      | false =>
        obtain ⟨hsp2, hpre, hlen⟩ := split_one hsp hlt' hp
        rw [byte_at s k hlt] at hsp2
        have hcase : ((s[k].toNat : Int) == 92) = false ∨ (((s[k].toNat : Int) == 92) = true ∧ ¬ k + 1 < s.size) ∨ (∃ h : k + 1 < s.size, ((s[k].toNat : Int) == 92) = true ∧ ((s[k + 1].toNat : Int) == 10) = false) := by
          have t1 : ((s[k].toNat : Int) == 92) = decide (s[k] = 92) := toNat_eq s[k] 92 (by decide)
          by_cases e1 : s[k] = 92
          · by_cases e2 : k + 1 < s.size
            · have t2 : ((s[k + 1].toNat : Int) == 10) = decide (s[k + 1] = 10) := toNat_eq s[k + 1] 10 (by decide)
              have e3 : ¬ s[k + 1] = 10 := fun e3 => by rw [(pair_at s k e2).2 ⟨e1, e3⟩] at hp; cases hp
              exact .inr (.inr ⟨e2, by rw [t1, decide_eq_true e1], by rw [t2, decide_eq_false e3]⟩)
            · exact .inr (.inl ⟨by rw [t1, decide_eq_true e1], e2⟩)
          · exact .inl (by rw [t1, decide_eq_false e1])
        clear hp hpre
        rcases hcase with e1 | ⟨e1, e2⟩ | ⟨e2, e1, e3⟩
        all_goals
          go_wp2_with (at_builtin; refine wpList_append_own _ rfl _ _ 45 rfl w.heap.size 52 i0 (.agg #[.int .u8 0, .int .i64 0]) 2 16 Tryz.underlying45 hi hz0 hz1 hz2 rfl (by decide) _ _ _ rfl (hrow.alloc _) ⟨wr.heap.size, 0, none⟩ 1 1 [.int .u8 s[k].toNat, .int .i64 k] rfl rfl (cell_two_new _ _ _ _) (by simp [Value.oneCell']) (by unfold maxLen; omega) (by omega) (by simp; omega) ?_; intro v' w2 hown' hgrow _; obtain ⟨g', cap', rfl⟩ := ownsRow_succ hown')
          go_roundw
          case rel =>
            refine ⟨k + 1, pre ++ [(s[k], k)], by go_num, hsp2, ?_, ?_⟩
            · rw [List.length_append, cellsC_append]; exact hown'
            · exact (hB.alloc hsB _).grown hgrow (by simp; omega) (fun j ej => (hrow.lt j ej).1)
          case measure => simp [intOf]; omega
    · have he := split_end hsp (by rw [size_list]; omega)
      go_wp2_with fail
      go_ret
      rw [← he]
      exact ⟨_, rfl, hrow, hB⟩

theorem refjoin_any (s : ByteArray) (hs : s.size ≤ 4000000000) (w : World) : Calls Tryz.prog 31 #[.string s] w (JoinPost w s.data.toList) :=
  (refjoin_row s hs w).mono fun _ _ ⟨v, h1, h2, h3⟩ => ⟨v, h1, Chars.of_row h2, h3⟩
set_option maxRecDepth 100000 in
set_option maxHeartbeats 1000000 in
theorem reftext_any (v : Value) (l : List Sp.Ch) (w : World) (hv : Chars w v l) (hl : l.length ≤ 4000000000) :
    Calls Tryz.prog 32 #[v] w fun e w' => e = .returned (.string ⟨(l.map Prod.fst).toArray⟩) ∧ Below w.heap.size w w' := by
  obtain ⟨ad, cap, rfl, -⟩ := id hv
  rcases Nat.eq_zero_or_pos l.length with h0 | hpos
  · obtain rfl : l = [] := List.length_eq_zero_iff.1 h0
    clear hv
    go_enter Tryz.func32, Tryz.ntmps32
    go_wp2_with fail
    go_loop [3, 4] (fun t i => t = .string ⟨#[]⟩ ∧ i = .int .i64 0) (fun _ _ => 0)
    case atStart => exact ⟨rfl, rfl⟩
    case round =>
      obtain ⟨rfl, rfl⟩ := hrel
      go_wp2_with fail
      go_ret
      exact ⟨rfl, Below.refl _ _⟩
  · obtain ⟨g, o, rfl, _, hcap, hmax, hg, hc⟩ := hv.cells hpos
    unfold maxLen at hmax
    obtain ⟨n, hn⟩ : ∃ n, n = l.length := ⟨_, rfl⟩
    rw [← hn] at hl hcap hpos
    rw [← hn]
    have Hn := Lib.hid hn
    have HC := Lib.hid hc
    clear hn hc hv
    go_enter Tryz.func32, Tryz.ntmps32
    go_wp2_with fail
    go_loopw [3, 4] (fun t i wr => ∃ (k : Nat) (acc : List UInt8), i = .int .i64 k ∧ t = .string ⟨acc.toArray⟩ ∧ acc = (l.map Prod.fst).take k ∧ k ≤ n ∧ Below w.heap.size w wr) (fun _ i _ => n - (intOf i).toNat)
    case atStart => exact ⟨0, [], rfl, rfl, rfl, Nat.zero_le _, Below.refl _ _⟩
    case round =>
      obtain ⟨k, acc, rfl, rfl, ha, hk, hB⟩ := hrel
      have hsB := hB.size
      have hlen : acc.length ≤ k := by rw [ha]; simp; omega
      have HA := Lib.hid ha
      clear ha
      by_cases hlt : k < n
      · obtain ⟨x, hx⟩ : ∃ x, l[k]? = some x := ⟨_, List.getElem?_eq_getElem (by rw [← Hn.out]; exact hlt)⟩
        obtain ⟨c0, c1⟩ := HC.out k x hx
        have d0 : wr.cell? ⟨g, o + k * 2, none⟩ = some (.int .u8 x.1.toNat) := (hB.cell (p := ⟨g, o + k * 2, none⟩) hg).trans c0
        have ht : acc ++ [x.1] = (l.map Prod.fst).take (k + 1) := by
          have hx' : (l.map Prod.fst)[k]? = some x.1 := by rw [List.getElem?_map, hx]; rfl
          obtain ⟨hk2, hx2⟩ := List.getElem?_eq_some_iff.1 hx'
          rw [List.take_succ_eq_append_getElem hk2, hx2, HA.out]
        have HT := Lib.hid ht
        clear ht hx c0 c1
        have hcv := conv_one x.1 wr
        have had : ∀ W, (Op.stringOp .add ⟨acc.toArray⟩ ⟨#[x.1]⟩).run Tryz.prog W = .ok (.string ⟨(acc ++ [x.1]).toArray⟩) W := fun W => add_run acc [x.1] (by simp; omega) W
        go_wp2_with fail
        go_roundw
        case rel => exact ⟨k + 1, acc ++ [x.1], by go_num, by simp, HT.out, by omega, hB.alloc hsB _⟩
        case measure => simp [intOf]; omega
      · go_wp2_with fail
        go_ret
        refine ⟨?_, hB⟩
        have e : l.map Prod.fst = acc := by rw [HA.out, List.take_of_length_le (by rw [List.length_map, ← Hn.out]; omega)]
        rw [e]
        rfl
set_option maxHeartbeats 1000000 in
theorem rletter_any (c : UInt8) (w : World) : Calls Tryz.prog 79 #[.int .u8 c.toNat] w fun e w' => e = .returned (.bool (Lx.letter c)) ∧ w = w' := by
  have hl := letter_int c
  obtain ⟨b, hb⟩ : ∃ b, b = Lx.letter c := ⟨_, rfl⟩
  rw [← hb] at hl ⊢
  obtain ⟨n, hn⟩ : ∃ n : Int, n = c.toNat := ⟨_, rfl⟩
  rw [← hn] at hl ⊢
  have HL := Lib.hid hl
  clear hl hn hb
  go_enter Tryz.func79, Tryz.ntmps79
  go_wp2_with fail
  all_goals
    go_ret
    refine ⟨ret_bool ?_, rfl⟩
    rw [HL.out, Bool.eq_iff_iff]
    simp
    try omega

set_option maxHeartbeats 1000000 in
theorem rdigit_any (c : UInt8) (w : World) : Calls Tryz.prog 80 #[.int .u8 c.toNat] w fun e w' => e = .returned (.bool (Lx.digit c)) ∧ w = w' := by
  have hl := digit_int c
  obtain ⟨b, hb⟩ : ∃ b, b = Lx.digit c := ⟨_, rfl⟩
  rw [← hb] at hl ⊢
  obtain ⟨n, hn⟩ : ∃ n : Int, n = c.toNat := ⟨_, rfl⟩
  rw [← hn] at hl ⊢
  have HL := Lib.hid hl
  clear hl hn hb
  go_enter Tryz.func80, Tryz.ntmps80
  go_wp2_with fail
  all_goals
    go_ret
    refine ⟨ret_bool ?_, rfl⟩
    rw [HL.out, Bool.eq_iff_iff]
    simp
    try omega

end Go.Proofs.YtognifnalfjdgaaGreatDoor

/- The document's own Tokens, what tpl8 had left out. -/
namespace Go.Proofs.YtognifnalfjdgaaGreatDoor
open Go.RowKit Go.Shelf
open Lx (T)
set_option maxHeartbeats 1000000 in
theorem is_any (s p : ByteArray) (i : Nat) (hs : s.size ≤ 4000000000) (hi : i ≤ s.size) (hp : p.size ≤ 100) (hp0 : 0 < p.size) (w : World) :
    Calls Tryz.prog 59 #[.string s, .int .i64 i, .string p] w fun e w' => e = .returned (.bool (p.data.toList.isPrefixOf (s.data.toList.drop i))) ∧ w = w' := by
  by_cases h : i + p.size ≤ s.size
  · have hx := is_pre s p i
    obtain ⟨b, hb⟩ : ∃ b, b = p.data.toList.isPrefixOf (s.data.toList.drop i) := ⟨_, rfl⟩
    rw [← hb] at hx ⊢
    have HL := Lib.hid hx
    clear hx hb
    go_enter Tryz.func59, Tryz.ntmps59
    go_wp2_with fail
    go_ret
    exact ⟨ret_bool (by rw [HL.out, ba_beq]), rfl⟩
  · have hx := is_short s p i h hp0
    have HL := Lib.hid hx
    clear hx
    go_enter Tryz.func59, Tryz.ntmps59
    go_wp2_with fail
    go_ret
    exact ⟨ret_bool HL.out.symm, rfl⟩

set_option maxHeartbeats 2000000 in
set_option maxRecDepth 100000 in
theorem rblank_any (s : ByteArray) (i : Nat) (hs : s.size ≤ 4000000000) (hi : i < s.size) (w : World) :
    Calls Tryz.prog 33 #[.string s, .int .i64 i] w fun e w' => e = .returned (.int .i64 ((i + Lx.blankLen (s.data.toList.drop i) : Nat) : Int)) ∧ w = w' := by
  have hd := drop_at s i hi
  have hbl : Lx.blankLen (s.data.toList.drop i) = if Lx.isBl s[i] then 1 else Lx.commentLen (s.data.toList.drop i) := by
    conv => lhs; rw [hd]
    rw [Lx.blankLen_cons, ← hd]
  obtain ⟨R, hR⟩ : ∃ R, R = i + Lx.blankLen (s.data.toList.drop i) := ⟨_, rfl⟩
  rw [← hR]
  rw [hbl] at hR
  clear hbl
  have hi2 := isBl_range s[i]
  cases hB : Lx.isBl s[i] with
  | true =>
    rw [hB] at hi2 hR
    rw [if_pos rfl] at hR
    subst hR
    have hcase : ((s[i].toNat : Int) == 32) = true ∨ (((s[i].toNat : Int) == 32) = false ∧ ((s[i].toNat : Int) == 9) = true) ∨ (((s[i].toNat : Int) == 32) = false ∧ ((s[i].toNat : Int) == 9) = false ∧ 11 ≤ (s[i].toNat : Int) ∧ (s[i].toNat : Int) ≤ 13) := by
      cases h1 : ((s[i].toNat : Int) == 32) with
      | true => exact .inl rfl
      | false =>
        cases h2 : ((s[i].toNat : Int) == 9) with
        | true => exact .inr (.inl ⟨rfl, rfl⟩)
        | false =>
          rw [h1, h2] at hi2
          simp at hi2
          exact .inr (.inr ⟨rfl, rfl, by omega, by omega⟩)
    clear hi2 hB hd
    rcases hcase with h1 | ⟨h1, h2⟩ | ⟨h1, h2, h3, h4⟩
    all_goals
      go_enter Tryz.func33, Tryz.ntmps33
      go_wp2_with fail
      go_ret
      exact ⟨ret_int (by omega), rfl⟩
  | false =>
    rw [hB] at hi2 hR
    rw [if_neg (by simp)] at hR
    have h1 : ((s[i].toNat : Int) == 32) = false := by cases h : ((s[i].toNat : Int) == 32) with | false => rfl | true => rw [h] at hi2; simp at hi2
    have h2 : ((s[i].toNat : Int) == 9) = false := by cases h : ((s[i].toNat : Int) == 9) with | false => rfl | true => rw [h] at hi2; simp at hi2
    have h3 : (s[i].toNat : Int) < 11 ∨ (11 ≤ (s[i].toNat : Int) ∧ 13 < (s[i].toNat : Int)) := by
      rw [h1, h2] at hi2
      simp at hi2
      omega
    have HR := Lib.hid hR
    clear hi2 hB hd hR
    cases hL : [47, 47].isPrefixOf (s.data.toList.drop i) with
    | true =>
      have hR2 : R = i + Lx.lineLen (s.data.toList.drop i) := by rw [HR.out, comment_line _ hL]
      have HL := Lib.hid hL
      have HR2 := Lib.hid hR2
      clear hL hR2
      rcases h3 with h3 | ⟨h3, h4⟩
      all_goals
        go_enter Tryz.func33, Tryz.ntmps33
        go_wp2_with fail
        refine (is_any s ⟨#[47, 47]⟩ i hs (by omega) (by decide) (by decide) _).mono ?_
        rintro e w' ⟨rfl, rfl⟩
        rw [show (⟨#[47, 47]⟩ : ByteArray).data.toList = [47, 47] from rfl, HL.out]
        go_wp2_with fail
        go_loop [1] (fun x => ∃ k : Nat, x = .int .i64 k ∧ k ≤ s.size ∧ R = k + Lx.lineLen (s.data.toList.drop k)) (fun x => s.size - (intOf x).toNat)
        case atStart => exact ⟨i, rfl, by omega, HR2.out⟩
        case round =>
          obtain ⟨k, rfl, hk, he⟩ := hrel
          have HE := Lib.hid he
          clear he
          by_cases hlt : k < s.size
          · have hd := Lib.hid (drop_at s k hlt)
            by_cases hnl : s[k] = 10
            · have t1 : ((s[k].toNat : Int) == 10) = true := u8_eq hnl
              have t2 : ((s[k].toNat : Int) != 10) = false := by simp [bne, t1]
              have HN := Lib.hid hnl
              clear hnl
              go_wp2_with fail
              go_ret
              exact ⟨ret_int (by rw [HE.out, hd.out, HN.out, line_no]; simp), rfl⟩
            · have t1 : ((s[k].toNat : Int) == 10) = false := u8_ne hnl
              have t2 : ((s[k].toNat : Int) != 10) = true := by simp [bne, t1]
              have HN := Lib.hid hnl
              clear hnl
              go_wp2_with fail
              go_round
              case rel => exact ⟨k + 1, by go_num, by omega, by rw [HE.out, hd.out, line_yes _ _ HN.out]; omega⟩
              case measure => simp [intOf]; omega
          · go_wp2_with fail
            go_ret
            exact ⟨ret_int (by rw [HE.out, drop_end s k (by omega)]; simp [Lx.lineLen]), rfl⟩
    | false =>
      cases hK : [47, 42].isPrefixOf (s.data.toList.drop i) with
      | true =>
        obtain ⟨h2l, hce⟩ := comment_block _ hK i
        rw [← HR.out, List.drop_drop] at hce
        rw [List.length_drop, size_list] at h2l
        have HL := Lib.hid hL
        have HK := Lib.hid hK
        have HC := Lib.hid hce
        clear hL hK hce
        rcases h3 with h3 | ⟨h3, h4⟩
        all_goals
          go_enter Tryz.func33, Tryz.ntmps33
          go_wp2_with fail
          refine (is_any s ⟨#[47, 47]⟩ i hs (by omega) (by decide) (by decide) _).mono ?_
          rintro e w' ⟨rfl, rfl⟩
          rw [show (⟨#[47, 47]⟩ : ByteArray).data.toList = [47, 47] from rfl, HL.out]
          go_wp2_with fail
          refine (is_any s ⟨#[47, 42]⟩ i hs (by omega) (by decide) (by decide) _).mono ?_
          rintro e w' ⟨rfl, rfl⟩
          rw [show (⟨#[47, 42]⟩ : ByteArray).data.toList = [47, 42] from rfl, HK.out]
          go_wp2_with fail
          go_loop [7] (fun x => ∃ k : Nat, x = .int .i64 k ∧ i + 2 ≤ k ∧ k ≤ s.size ∧ R = cend i k (Lx.clos (s.data.toList.drop k))) (fun x => s.size - (intOf x).toNat)
          case atStart => exact ⟨i + 2, by go_num, Nat.le_refl _, by omega, HC.out⟩
          case round =>
            obtain ⟨k, rfl, hk2, hk, he⟩ := hrel
            have HE := Lib.hid he
            clear he
            by_cases hlt : k < s.size
            · have hd := Lib.hid (drop_at s k hlt)
              cases hQ : [42, 47].isPrefixOf (s.data.toList.drop k) with
              | true =>
                have HQ := Lib.hid hQ
                clear hQ
                go_wp2_with fail
                refine (is_any s ⟨#[42, 47]⟩ k hs (by omega) (by decide) (by decide) _).mono ?_
                rintro e w' ⟨rfl, rfl⟩
                rw [show (⟨#[42, 47]⟩ : ByteArray).data.toList = [42, 47] from rfl, HQ.out]
                go_wp2_with fail
                go_ret
                exact ⟨ret_int (by rw [HE.out, clos_hit _ HQ.out]; simp [cend]), rfl⟩
              | false =>
                have hQ' := hQ
                rw [hd.out] at hQ'
                have HQ := Lib.hid hQ
                have HQ' := Lib.hid hQ'
                clear hQ hQ'
                go_wp2_with fail
                refine (is_any s ⟨#[42, 47]⟩ k hs (by omega) (by decide) (by decide) _).mono ?_
                rintro e w' ⟨rfl, rfl⟩
                rw [show (⟨#[42, 47]⟩ : ByteArray).data.toList = [42, 47] from rfl, HQ.out]
                go_wp2_with fail
                go_round
                case rel => exact ⟨k + 1, by go_num, by omega, by omega, by rw [HE.out, hd.out, clos_on _ _ HQ'.out, cend_map]⟩
                case measure => simp [intOf]; omega
            · go_wp2_with fail
              go_ret
              exact ⟨ret_int (by rw [HE.out, drop_end s k (by omega)]; rfl), rfl⟩
      | false =>
        have hR2 : R = i := by rw [HR.out, comment_no _ hL hK]; rfl
        have HL := Lib.hid hL
        have HK := Lib.hid hK
        subst hR2
        clear hL hK
        rcases h3 with h3 | ⟨h3, h4⟩
        all_goals
          go_enter Tryz.func33, Tryz.ntmps33
          go_wp2_with fail
          refine (is_any s ⟨#[47, 47]⟩ _ hs (by omega) (by decide) (by decide) _).mono ?_
          rintro e w' ⟨rfl, rfl⟩
          rw [show (⟨#[47, 47]⟩ : ByteArray).data.toList = [47, 47] from rfl, HL.out]
          go_wp2_with fail
          refine (is_any s ⟨#[47, 42]⟩ _ hs (by omega) (by decide) (by decide) _).mono ?_
          rintro e w' ⟨rfl, rfl⟩
          rw [show (⟨#[47, 42]⟩ : ByteArray).data.toList = [47, 42] from rfl, HK.out]
          go_wp2_with fail
          go_ret
          exact ⟨rfl, rfl⟩


set_option maxHeartbeats 2000000 in
theorem word_any (s : ByteArray) (i : Nat) (hs : s.size ≤ 4000000000) (hi : i < s.size) (w : World) :
    Calls Tryz.prog 60 #[.string s, .int .i64 i] w fun e w' => e = .returned (.int .i64 (rword (s.data.toList.drop i))) ∧ w = w' := by
  have hd := drop_at s i hi
  obtain ⟨R, hR⟩ : ∃ R, R = rword (s.data.toList.drop i) := ⟨_, rfl⟩
  rw [← hR]
  cases hL : Lx.letter s[i] with
  | true =>
    have hR2 : R = Lx.wordLen (s.data.toList.drop i) := by rw [hR, hd, rword_cons, if_pos hL]
    have HR := Lib.hid hR2
    have HL := Lib.hid hL
    clear hR hR2 hd hL
    go_enter Tryz.func60, Tryz.ntmps60
    go_wp2_with fail
    go_loop [5] (fun n => ∃ k : Nat, n = .int .i64 k ∧ i + k ≤ s.size ∧ R = k + Lx.wordLen (s.data.toList.drop (i + k))) (fun n => s.size - (intOf n).toNat)
    case atStart => exact ⟨0, rfl, by omega, by rw [HR.out]; simp⟩
    case round =>
      obtain ⟨k, rfl, hk, he⟩ := hrel
      have HE := Lib.hid he
      clear he
      by_cases hlt : i + k < s.size
      · have hd := Lib.hid (drop_at s (i + k) hlt)
        cases hL2 : Lx.letter s[i + k] with
        | true =>
          go_wp2_with (go_at_call 79; refine (rletter_any _ _).mono ?_; rintro e w' ⟨rfl, rfl⟩)
          go_round
          case rel => exact ⟨k + 1, by go_num, by omega, by rw [HE.out, hd.out, word_yes _ _ (by simp [Lx.alnum, hL2])]; rw [show i + (k + 1) = i + k + 1 by omega]; omega⟩
          case measure => simp [intOf]; omega
        | false =>
          have hk0 : 0 < k := by
            rcases Nat.eq_zero_or_pos k with h | h
            · exfalso
              subst h
              have := HL.out
              simp only [Nat.add_zero] at hL2
              rw [this] at hL2; cases hL2
            · exact h
          cases hD : Lx.digit s[i + k] with
          | true =>
            go_wp2_with (first | (go_at_call 79; refine (rletter_any _ _).mono ?_; rintro e w' ⟨rfl, rfl⟩) | (go_at_call 80; refine (rdigit_any _ _).mono ?_; rintro e w' ⟨rfl, rfl⟩))
            go_round
            case rel => exact ⟨k + 1, by go_num, by omega, by rw [HE.out, hd.out, word_yes _ _ (by simp [Lx.alnum, hD])]; rw [show i + (k + 1) = i + k + 1 by omega]; omega⟩
            case measure => simp [intOf]; omega
          | false =>
            go_wp2_with (first | (go_at_call 79; refine (rletter_any _ _).mono ?_; rintro e w' ⟨rfl, rfl⟩) | (go_at_call 80; refine (rdigit_any _ _).mono ?_; rintro e w' ⟨rfl, rfl⟩))
            go_ret
            refine ⟨ret_int ?_, rfl⟩
            rw [HE.out, hd.out, word_no _ _ (by simp [Lx.alnum, hL2, hD])]; simp
      · go_wp2_with fail
        go_ret
        refine ⟨ret_int ?_, rfl⟩
        rw [HE.out, drop_end s (i + k) (by omega)]; simp [Lx.wordLen]
  | false =>
    have hR2 : R = 0 := by rw [hR, hd, rword_cons, if_neg (by rw [hL]; simp)]
    subst hR2
    clear hR hd
    go_enter Tryz.func60, Tryz.ntmps60
    go_wp2_with fail
    go_loop [5] (fun n => n = .int .i64 0) (fun n => 0)
    case atStart => exact rfl
    case round =>
      obtain rfl := hrel
      go_wp2_with (go_at_call 79; refine (rletter_any _ _).mono ?_; rintro e w' ⟨rfl, rfl⟩)
      go_ret
      exact ⟨rfl, rfl⟩
end Go.Proofs.YtognifnalfjdgaaGreatDoor

/- The document's own Tokens, what tpl8 had left out. -/
namespace Go.Proofs.YtognifnalfjdgaaGreatDoor
open Go.RowKit Go.Shelf
open Lx (T)
set_option maxHeartbeats 8000000 in
set_option maxRecDepth 100000 in
theorem rnumber_any (s : ByteArray) (i : Nat) (hs : s.size ≤ 4000000000) (hi : i < s.size) (w : World) :
    Calls Tryz.prog 61 #[.string s, .int .i64 i] w fun e w' => e = .returned (.int .i64 (Lx.numLen (s.data.toList.drop i))) ∧ w = w' := by
  have hd := drop_at s i hi
  have hnl := Lx.numLen_cons s[i] (s.data.toList.drop (i + 1))
  rw [← hd, u8_beq, show ((46 : UInt8).toNat : Int) = 46 from rfl] at hnl
  have hyes : ∀ h1 : i + 1 < s.size, Lx.headDigit (s.data.toList.drop (i + 1)) = Lx.digit s[i + 1] := fun h1 => by rw [drop_at s (i + 1) h1]; rfl
  have hno : ¬ i + 1 < s.size → Lx.headDigit (s.data.toList.drop (i + 1)) = false := fun h1 => by rw [drop_end s (i + 1) (by omega)]; rfl
  obtain ⟨R, hR⟩ : ∃ R, R = Lx.numLen (s.data.toList.drop i) := ⟨_, rfl⟩
  rw [← hR] at hnl ⊢
  clear hR hd
  by_cases hN : (Lx.digit s[i] || (((s[i].toNat : Int) == 46) && Lx.headDigit (s.data.toList.drop (i + 1)))) = true
  · rw [if_pos hN] at hnl
    have hcase : Lx.digit s[i] = true ∨ (Lx.digit s[i] = false ∧ ((s[i].toNat : Int) == 46) = true ∧ ∃ h : i + 1 < s.size, Lx.digit s[i + 1] = true) := by
      cases hD : Lx.digit s[i] with
      | true => exact .inl rfl
      | false =>
        rw [hD, Bool.false_or, Bool.and_eq_true] at hN
        refine .inr ⟨rfl, hN.1, ?_⟩
        by_cases h1 : i + 1 < s.size
        · exact ⟨h1, by rw [← hyes h1]; exact hN.2⟩
        · have := hN.2; rw [hno h1] at this; cases this
    have HR := Lib.hid hnl
    have HC := Lib.hid hcase
    obtain ⟨D, hD⟩ : ∃ D, D = Lx.digit s[i] := ⟨_, rfl⟩
    have HD := Lib.hid hD
    clear hN hyes hno hnl hcase hD
    go_enter Tryz.func61, Tryz.ntmps61
    go_upto_region 2 with (go_at_call 80; refine (rdigit_any _ _).mono ?_; rintro e w' ⟨rfl, rfl⟩; rw [← HD.out])
    go_cut [35] (fun s35 wx => s35 = .bool false ∧ wx = w)
    case first =>
      rcases HC.out with h1 | ⟨h1, h2, h3, h4⟩
      all_goals
        obtain rfl := HD.out.trans h1
        clear h1
        go_wp2_with (go_at_call 80; refine (rdigit_any _ _).mono ?_; rintro e w' ⟨rfl, rfl⟩)
        go_meet
        exact ⟨rfl, rfl⟩
    case rest =>
      obtain ⟨rfl, rfl⟩ := hcut
      go_wp2_with fail
      go_loop [6] (fun n => ∃ k : Nat, n = .int .i64 k ∧ 1 ≤ k ∧ i + k ≤ s.size ∧ R = k + Lx.numRest (s.data.toList.drop (i + k))) (fun n => s.size - (intOf n).toNat)
      case atStart => exact ⟨1, rfl, Nat.le_refl _, by omega, HR.out⟩
      case round =>
        obtain ⟨k, rfl, hk1, hk, he⟩ := hrel
        by_cases hlt : i + k < s.size
        · obtain ⟨q1, q2, q3⟩ := num_step s i k R hlt he
          have HQ1 := Lib.hid q1
          have HQ2 := Lib.hid q2
          have HQ3 := Lib.hid q3
          obtain ⟨SG, hSG⟩ : ∃ SG, SG = sgAt s (i + k) := ⟨_, rfl⟩
          obtain ⟨X, hX⟩ : ∃ X, X = expo (s.data.toList.drop (i + k)) := ⟨_, rfl⟩
          have hXE : X = (Lx.isE s[i + k] && SG) := by rw [hX, hSG, expo_sg s (i + k) hlt]
          have HX := Lib.hid hX
          have HSG := Lib.hid hSG
          have HXE := Lib.hid hXE
          clear q1 q2 q3 he hX hSG hXE
          go_upto_region 7 with (fail)
          go_cut [8] (fun s8 wx => s8 = .bool SG ∧ wx = wc)
          case first =>
            rcases sg_cases s (i + k) with ⟨x0, x1⟩ | ⟨x0, x1, x2⟩ | ⟨x0, x1, x2, x3⟩ | ⟨x0, x1, x2, x3⟩
            all_goals
              rw [← HSG.out] at x0
              have HX0 := Lib.hid x0
              clear x0
              go_wp2_with fail
              go_meet
              exact ⟨by rw [HX0.out], rfl⟩
          case rest =>
            obtain ⟨rfl, rfl⟩ := hcut
            go_upto_region 8 with (fail)
            go_cut [88] (fun s88 wx => s88 = .bool X ∧ wx = wc)
            case first =>
              have hxe := HXE.out
              cases hE : Lx.isE s[i + k] with
              | true =>
                rw [hE, Bool.true_and] at hxe
                have HH := Lib.hid hxe
                rcases isE_cases _ hE with y1 | ⟨y1, y2⟩ | ⟨y1, y2, y3⟩ | ⟨y1, y2, y3, y4⟩
                all_goals
                  clear hE hxe
                  go_wp2_with fail
                  go_meet
                  exact ⟨by rw [HH.out], rfl⟩
              | false =>
                rw [hE, Bool.false_and] at hxe
                have HH := Lib.hid hxe
                obtain ⟨y1, y2, y3, y4⟩ := isE_none _ hE
                clear hE hxe
                go_wp2_with fail
                go_meet
                exact ⟨by rw [HH.out], rfl⟩
            case rest =>
              obtain ⟨rfl, rfl⟩ := hcut
              cases hXX : X with
              | true =>
                have HY := Lib.hid (HQ1.out (by rw [← HX.out]; exact hXX))
                clear hXX
                go_wp2_with fail
                go_round
                case rel => exact ⟨k + 2, by go_num, by omega, by have := HY.out.1; omega, HY.out.2⟩
                case measure => simp [intOf]; omega
              | false =>
                have HXX := Lib.hid (HX.out.symm.trans hXX)
                clear hXX
                rcases numc_cases s[i + k] with ⟨y0, y1 | ⟨y1, y2⟩ | ⟨y1, y2, y3⟩⟩ | ⟨y0, y1, y2, y3⟩
                · have HY := Lib.hid (HQ2.out HXX.out y0)
                  clear y0
                  go_wp2_with (first | (go_at_call 79; refine (rletter_any _ _).mono ?_; rintro e w' ⟨rfl, rfl⟩) | (go_at_call 80; refine (rdigit_any _ _).mono ?_; rintro e w' ⟨rfl, rfl⟩))
                  go_round
                  case rel => exact ⟨k + 1, by go_num, by omega, by omega, HY.out⟩
                  case measure => simp [intOf]; omega
                · have HY := Lib.hid (HQ2.out HXX.out y0)
                  clear y0
                  go_wp2_with (first | (go_at_call 79; refine (rletter_any _ _).mono ?_; rintro e w' ⟨rfl, rfl⟩) | (go_at_call 80; refine (rdigit_any _ _).mono ?_; rintro e w' ⟨rfl, rfl⟩))
                  go_round
                  case rel => exact ⟨k + 1, by go_num, by omega, by omega, HY.out⟩
                  case measure => simp [intOf]; omega
                · have HY := Lib.hid (HQ2.out HXX.out y0)
                  have y4 : ((s[i + k].toNat : Int) != 46) = false := by simp [bne, y3]
                  clear y0
                  go_wp2_with (first | (go_at_call 79; refine (rletter_any _ _).mono ?_; rintro e w' ⟨rfl, rfl⟩) | (go_at_call 80; refine (rdigit_any _ _).mono ?_; rintro e w' ⟨rfl, rfl⟩))
                  go_round
                  case rel => exact ⟨k + 1, by go_num, by omega, by omega, HY.out⟩
                  case measure => simp [intOf]; omega
                · have HY := Lib.hid (HQ3.out HXX.out y0)
                  have y4 : ((s[i + k].toNat : Int) != 46) = true := by simp [bne, y3]
                  clear y0
                  go_wp2_with (first | (go_at_call 79; refine (rletter_any _ _).mono ?_; rintro e w' ⟨rfl, rfl⟩) | (go_at_call 80; refine (rdigit_any _ _).mono ?_; rintro e w' ⟨rfl, rfl⟩))
                  go_ret
                  exact ⟨ret_int (by rw [HY.out]), rfl⟩
        · have HE := Lib.hid he
          clear he
          go_wp2_with fail
          go_ret
          exact ⟨ret_int (by rw [HE.out, drop_end s (i + k) (by omega)]; simp [Lx.numRest]), rfl⟩
  · rw [if_neg hN] at hnl
    subst hnl
    have hcase : (Lx.digit s[i] = false ∧ ((s[i].toNat : Int) == 46) = false) ∨ (Lx.digit s[i] = false ∧ ((s[i].toNat : Int) == 46) = true ∧ ¬ i + 1 < s.size) ∨ (Lx.digit s[i] = false ∧ ((s[i].toNat : Int) == 46) = true ∧ ∃ h : i + 1 < s.size, Lx.digit s[i + 1] = false) := by
      cases hD : Lx.digit s[i] with
      | true => rw [hD] at hN; simp at hN
      | false =>
        rw [hD, Bool.false_or] at hN
        cases h46 : ((s[i].toNat : Int) == 46) with
        | false => exact .inl ⟨rfl, rfl⟩
        | true =>
          rw [h46, Bool.true_and] at hN
          by_cases h1 : i + 1 < s.size
          · rw [hyes h1] at hN
            exact .inr (.inr ⟨rfl, rfl, h1, by simpa using hN⟩)
          · exact .inr (.inl ⟨rfl, rfl, h1⟩)
    clear hN hyes hno
    rcases hcase with ⟨h1, h2⟩ | ⟨h1, h2, h3⟩ | ⟨h1, h2, h3, h4⟩
    all_goals
      go_enter Tryz.func61, Tryz.ntmps61
      go_wp2_with (go_at_call 80; refine (rdigit_any _ _).mono ?_; rintro e w' ⟨rfl, rfl⟩)
      go_ret
      exact ⟨rfl, rfl⟩
end Go.Proofs.YtognifnalfjdgaaGreatDoor
