/- What is proved: what a text comes to; the chapter's examples are as it says (awake), in whatever memory. (and what stands with it) -/
import Derived.Test.YtognifnalfjdgaaGreatDoorGg
import Derived.Test.YtognifnalfjdgaaGreatDoorGh
import Derived.Test.YtognifnalfjdgaaGreatDoorGe
import Derived.Test.YtognifnalfjdgaaGreatDoorGi
import Derived.Test.YtognifnalfjdgaaGreatDoorGf
import Derived.OneCell
import Derived.StringKeys
import Derived.Maps.AppendAt

/- What is proved: what a text comes to; the chapter's examples are as it says (awake), in whatever memory. -/
namespace Go.Proofs.YtognifnalfjdgaaGreatDoor
open Go.RowKit Go.Shelf

theorem Lx.tk_text : ∀ (p : Bool) (l : List Sp.Ch), ∀ t ∈ Lx.tk p l, t.text.length ≤ l.length := by
  refine Lx.tkInd ?_ ?_ ?_
  · intro p t h; simp [Lx.tk_nil] at h
  · intro p l h ih t ht
    rw [Lx.tk_blank p l h] at ht
    have := ih t ht
    rw [List.length_drop] at this
    omega
  · intro p l hl h ih t ht
    have h1 := Lx.first_len l hl
    rw [Lx.tk_tok p l hl h] at ht
    rcases List.mem_cons.1 ht with rfl | ht
    · unfold Lx.tokAt
      dsimp only
      rw [List.length_take]
      omega
    · have := ih t ht
      rw [List.length_drop] at this
      omega
/-- The tokens of a text. -/
def toksK (f : Int) (s : ByteArray) : List K := (Lx.tk false (Sp.left 0 s.data.toList)).map (ofT f)
theorem toksK_tb (f : Int) (s : ByteArray) (hs : s.size ≤ 1000000) : Tb (toksK f s) := by
  have h1 := Sp.left_le 0 s.data.toList
  rw [size_list] at h1
  refine ⟨?_, fun t ht => ?_⟩
  · unfold toksK
    rw [List.length_map]
    have := Lx.tk_length false (Sp.left 0 s.data.toList)
    omega
  · unfold toksK at ht
    obtain ⟨x, hx, rfl⟩ := List.mem_map.1 ht
    have := Lx.tk_text false _ x hx
    show (⟨x.text.toArray⟩ : ByteArray).size ≤ _
    have e : (⟨x.text.toArray⟩ : ByteArray).size = x.text.length := rfl
    omega
theorem tokensK_any (f : Int) (s : ByteArray) (hs : s.size ≤ 1000000) (w : World) (hG : Glob w) : Calls Tryz.prog 10 #[.int .i64 f, .string s] w fun e w' => ∃ v, e = .returned v ∧ Ks w' v (toksK f s) ∧ Below w.heap.size w w' :=
  (tokens_any f s (by omega) w hG).mono fun e w' ⟨v, h1, h2, h3⟩ => ⟨v, h1, h2.ks, h3⟩

namespace Ie
theorem two_err (s : ByteArray) (a b : Int) : 0 ≤ (two s a b).2 ∧ (two s a b).2 ≤ 100 := by
  have key : ∀ (c : Prop) [Decidable c] (p q : Int × Int), (0 ≤ p.2 ∧ p.2 ≤ 100) → (0 ≤ q.2 ∧ q.2 ≤ 100) → 0 ≤ (if c then p else q).2 ∧ (if c then p else q).2 ≤ 100 := fun c _ p q hp hq => by
    split
    · exact hp
    · exact hq
  unfold two
  repeat' (first | exact ⟨Int.le_refl 0, (show (0 : Int) ≤ 100 by decide)⟩ | exact ⟨by decide, by decide⟩ | refine key _ _ _ ?_ ?_)
theorem comes_err : ∀ x : E, 0 ≤ (comes x).2 ∧ (comes x).2 ≤ 100
  | .num n => ⟨Int.le_refl 0, by show (0 : Int) ≤ 100; decide⟩
  | .bad => ⟨Int.le_refl 0, by show (0 : Int) ≤ 100; decide⟩
  | .un s x => by
    have h := comes_err x
    unfold comes
    split
    · exact h
    · exact ⟨Int.le_refl 0, by show (0 : Int) ≤ 100; decide⟩
  | .bin s x y => by
    have h := comes_err x
    have h' := comes_err y
    unfold comes
    split
    · exact h
    · split
      · exact ⟨Int.le_refl 0, by show (0 : Int) ≤ 100; decide⟩
      · split
        · exact h'
        · exact two_err _ _ _
  | .ask x y z => by
    have h := comes_err x
    have h' := comes_err y
    have h'' := comes_err z
    unfold comes
    split
    · exact h
    · split
      · exact h'
      · exact h''
theorem eval_err (l : List K) : 0 ≤ (eval l).2 ∧ (eval l).2 ≤ 100 := by
  unfold eval
  split
  · split
    · exact ⟨by decide, by decide⟩
    · exact comes_err _
  · exact ⟨by decide, by decide⟩
/-- What the law makes of a value and an error. -/
def said (p : Int × Int) : Int := if p.2 ≠ 0 then -1000 - p.2 else p.1
def evx (s : ByteArray) : Int := said (eval (toksK 0 s))
end Ie
def IntPost (n : Int) (w : World) (e : Ending) (w' : World) : Prop := e = .returned (.int .i64 n) ∧ Below w.heap.size w w'

theorem ieval_ks (v : Value) (l : List K) (w : World) (hG : Gv w) (hv : Ks w v l) (hT : Tb l) : Calls Tryz.prog 9 #[v] w (EvalPost w l) := ieval_any inumber_any iquote_any v l w hG hv hT
set_option maxRecDepth 100000 in
theorem evx_any (s : ByteArray) (hs : s.size ≤ 1000000) (w : World) (hG : Gv w) : Calls Tryz.prog 21 #[.string s] w (IntPost (Ie.evx s) w) := by
  have K1 := Lib.hid (tokensK_any 0 s hs w hG.1)
  have HT := Lib.hid (toksK_tb 0 s hs)
  have he := Ie.eval_err (toksK 0 s)
  have HEV := Lib.hid (show Ie.evx s = Ie.said (Ie.eval (toksK 0 s)) from rfl)
  obtain ⟨l, hl⟩ : ∃ l, l = toksK 0 s := ⟨_, rfl⟩
  rw [← hl] at K1 HT he HEV
  have HG := Lib.hid hG
  clear hl hG hs
  go_enter Tryz.func21, Tryz.ntmps21
  go_wp2_with fail
  refine K1.out.mono ?_
  rintro e w2 ⟨v, rfl, hv, hB2⟩
  have K2 := Lib.hid (ieval_ks v l w2 (HG.out.later hB2) hv HT.out)
  have HB2 := Lib.hid hB2
  clear hv hB2
  unfold EvalPost at K2
  obtain ⟨p, hp⟩ : ∃ p, p = Ie.eval l := ⟨_, rfl⟩
  rw [← hp] at K2 he HEV
  obtain ⟨x, y⟩ := p
  dsimp only at K2 he
  obtain ⟨he0, he1⟩ := he
  clear hp
  go_wp2_with fail
  refine K2.out.mono ?_
  rintro e w3 ⟨rfl, hB3⟩
  by_cases hy : y = 0
  · go_wp2_with fail
    go_ret
    refine ⟨?_, Below.then HB2.out hB3⟩
    rw [HEV.out]
    unfold Ie.said
    rw [if_neg (fun h => h hy)]
    rfl
  · go_wp2_with fail
    go_ret
    refine ⟨?_, Below.then HB2.out hB3⟩
    rw [HEV.out]
    unfold Ie.said
    rw [if_pos hy]
    rfl

theorem ex9_0 : Ie.evx ⟨#[49, 32, 43, 32, 50, 32, 42, 32, 51]⟩ = 7 := by kernel_rfl
theorem ex9_1 : Ie.evx ⟨#[40, 49, 32, 43, 32, 50, 41, 32, 42, 32, 51]⟩ = 9 := by kernel_rfl
theorem ex9_2 : Ie.evx ⟨#[45, 55, 32, 47, 32, 50]⟩ = -3 := by kernel_rfl
theorem ex9_3 : Ie.evx ⟨#[45, 55, 32, 37, 32, 50]⟩ = -1 := by kernel_rfl
theorem ex9_4 : Ie.evx ⟨#[49, 32, 124, 124, 32, 49, 32, 47, 32, 48]⟩ = 1 := by kernel_rfl
theorem ex9_5 : Ie.evx ⟨#[49, 32, 47, 32, 48]⟩ = -1092 := by kernel_rfl
theorem ex9_6 : Ie.evx ⟨#[48, 32, 63, 32, 49, 47, 48, 32, 58, 32, 53]⟩ = 5 := by kernel_rfl
theorem ex9_7 : Ie.evx ⟨#[88, 32, 61, 61, 32, 48, 32, 38, 38, 32, 39, 97, 39, 32, 61, 61, 32, 57, 55]⟩ = 1 := by kernel_rfl
theorem ex9_8 : Ie.evx ⟨#[48, 120, 49, 48, 117]⟩ = 16 := by kernel_rfl
theorem ex9_9 : Ie.evx ⟨#[48, 56]⟩ = -1091 := by kernel_rfl
theorem ex9_10 : Ie.evx ⟨#[49, 32, 60, 60, 32, 54, 52]⟩ = -1093 := by kernel_rfl
theorem ex9_11 : Ie.evx ⟨#[49, 32, 43]⟩ = -1090 := by kernel_rfl
theorem ex9_12 : Ie.evx ⟨#[]⟩ = -1090 := by kernel_rfl
theorem ex9_13 : Ie.evx ⟨#[49, 32, 63, 32, 50, 32, 58, 32, 48, 32, 63, 32, 51, 32, 58, 32, 52]⟩ = 2 := by kernel_rfl
noncomputable def aw9Body : Code := Tryz.f8.body.getD .skip

set_option maxRecDepth 100000 in
set_option maxHeartbeats 4000000 in
theorem aw9_4 (w W : World) (_ : Gv w) (hB : Below w.heap.size w W) (c0 c4 c5 c6 c7 c8 c9 c10 c11 c12 c13 c14 c15 c16 c17 c18 c19 c20 c21 c22 c23 c24 c25 c26 c27 c28 c29 c30 c31 c32 c33 c34 c35 c36 c37 c38 c39 c40 c41 c42 c43 c44 c45 c46 c47 c48 c49 c50 c51 c52 c53 c54 c55 c56 c57 c58 c59 c60 : Value) :
    Code.wp Tryz.prog (secs 4 aw9Body) (bodyPost Tryz.prog Tryz.f8 (TruePost w)) ⟨#[c0, .bool true, .bool true, .bool true, c4, c5, c6, c7, c8, c9, c10, c11, c12, c13, c14, c15, c16, c17, c18, c19, c20, c21, c22, c23, c24, c25, c26, c27, c28, c29, c30, c31, c32, c33, c34, c35, c36, c37, c38, c39, c40, c41, c42, c43, c44, c45, c46, c47, c48, c49, c50, c51, c52, c53, c54, c55, c56, c57, c58, c59, c60], []⟩ W := by
  have HB := Lib.hid hB
  clear hB
  refine wp_sec 4 aw9Body rfl ?_
  conv => arg 2; whnf
  go_wp2_with fail
  conv => arg 2; whnf
  go_wp2_with fail
  go_ret
  exact ⟨rfl, HB.out⟩

set_option maxRecDepth 100000 in
set_option maxHeartbeats 4000000 in
theorem aw9_3 (w W : World) (hG : Gv w) (hB : Below w.heap.size w W) (c0 c3 c4 c5 c6 c7 c8 c9 c10 c11 c12 c13 c14 c15 c16 c17 c18 c19 c20 c21 c22 c23 c24 c25 c26 c27 c28 c29 c30 c31 c32 c33 c34 c35 c36 c37 c38 c39 c40 c41 c42 c43 c44 c45 c46 c47 c48 c49 c50 c51 c52 c53 c54 c55 c56 c57 c58 c59 c60 : Value) :
    Code.wp Tryz.prog (secs 3 aw9Body) (bodyPost Tryz.prog Tryz.f8 (TruePost w)) ⟨#[c0, .bool true, .bool true, c3, c4, c5, c6, c7, c8, c9, c10, c11, c12, c13, c14, c15, c16, c17, c18, c19, c20, c21, c22, c23, c24, c25, c26, c27, c28, c29, c30, c31, c32, c33, c34, c35, c36, c37, c38, c39, c40, c41, c42, c43, c44, c45, c46, c47, c48, c49, c50, c51, c52, c53, c54, c55, c56, c57, c58, c59, c60], []⟩ W := by
  have HG := Lib.hid hG
  have HB0 := Lib.hid hB
  clear hB hG
  have K0 : Hid (∀ W, Below w.heap.size w W → Calls Tryz.prog 21 #[.string ⟨#[48, 120, 49, 48, 117]⟩] W (IntPost (16) W)) := Lib.hid fun W h => by rw [← ex9_8]; exact evx_any _ (by decide) W (HG.out.later h)
  have K1 : Hid (∀ W, Below w.heap.size w W → Calls Tryz.prog 21 #[.string ⟨#[48, 56]⟩] W (IntPost (-1091) W)) := Lib.hid fun W h => by rw [← ex9_9]; exact evx_any _ (by decide) W (HG.out.later h)
  have K2 : Hid (∀ W, Below w.heap.size w W → Calls Tryz.prog 21 #[.string ⟨#[49, 32, 60, 60, 32, 54, 52]⟩] W (IntPost (-1093) W)) := Lib.hid fun W h => by rw [← ex9_10]; exact evx_any _ (by decide) W (HG.out.later h)
  have K3 : Hid (∀ W, Below w.heap.size w W → Calls Tryz.prog 21 #[.string ⟨#[49, 32, 43]⟩] W (IntPost (-1090) W)) := Lib.hid fun W h => by rw [← ex9_11]; exact evx_any _ (by decide) W (HG.out.later h)
  have K4 : Hid (∀ W, Below w.heap.size w W → Calls Tryz.prog 21 #[.string ⟨#[]⟩] W (IntPost (-1090) W)) := Lib.hid fun W h => by rw [← ex9_12]; exact evx_any _ (by decide) W (HG.out.later h)
  have K5 : Hid (∀ W, Below w.heap.size w W → Calls Tryz.prog 21 #[.string ⟨#[49, 32, 63, 32, 50, 32, 58, 32, 48, 32, 63, 32, 51, 32, 58, 32, 52]⟩] W (IntPost (2) W)) := Lib.hid fun W h => by rw [← ex9_13]; exact evx_any _ (by decide) W (HG.out.later h)
  refine wp_sec 3 aw9Body rfl ?_
  conv => arg 2; whnf
  go_wp2_with fail
  refine (K0.out _ HB0.out).mono ?_
  rintro e w1 ⟨rfl, hB1⟩
  have HB1 := Lib.hid (Below.then HB0.out hB1)
  clear hB1
  go_wp2_with fail
  refine (K1.out _ HB1.out).mono ?_
  rintro e w2 ⟨rfl, hB2⟩
  have HB2 := Lib.hid (Below.then HB1.out hB2)
  clear hB2
  go_wp2_with fail
  refine (K2.out _ HB2.out).mono ?_
  rintro e w3 ⟨rfl, hB3⟩
  have HB3 := Lib.hid (Below.then HB2.out hB3)
  clear hB3
  go_wp2_with fail
  refine (K3.out _ HB3.out).mono ?_
  rintro e w4 ⟨rfl, hB4⟩
  have HB4 := Lib.hid (Below.then HB3.out hB4)
  clear hB4
  go_wp2_with fail
  refine (K4.out _ HB4.out).mono ?_
  rintro e w5 ⟨rfl, hB5⟩
  have HB5 := Lib.hid (Below.then HB4.out hB5)
  clear hB5
  go_wp2_with fail
  refine (K5.out _ HB5.out).mono ?_
  rintro e w6 ⟨rfl, hB6⟩
  have HB6 := Lib.hid (Below.then HB5.out hB6)
  clear hB6
  go_wp2_with fail
  exact aw9_4 w _ HG.out HB6.out _ _ _ _ _ _ _ _ _ _ _ _ _ _ _ _ _ _ _ _ _ _ _ _ _ _ _ _ _ _ _ _ _ _ _ _ _ _ _ _ _ _ _ _ _ _ _ _ _ _ _ _ _ _ _ _ _ _

set_option maxRecDepth 100000 in
set_option maxHeartbeats 4000000 in
theorem aw9_2 (w W : World) (hG : Gv w) (hB : Below w.heap.size w W) (c0 c2 c3 c4 c5 c6 c7 c8 c9 c10 c11 c12 c13 c14 c15 c16 c17 c18 c19 c20 c21 c22 c23 c24 c25 c26 c27 c28 c29 c30 c31 c32 c33 c34 c35 c36 c37 c38 c39 c40 c41 c42 c43 c44 c45 c46 c47 c48 c49 c50 c51 c52 c53 c54 c55 c56 c57 c58 c59 c60 : Value) :
    Code.wp Tryz.prog (secs 2 aw9Body) (bodyPost Tryz.prog Tryz.f8 (TruePost w)) ⟨#[c0, .bool true, c2, c3, c4, c5, c6, c7, c8, c9, c10, c11, c12, c13, c14, c15, c16, c17, c18, c19, c20, c21, c22, c23, c24, c25, c26, c27, c28, c29, c30, c31, c32, c33, c34, c35, c36, c37, c38, c39, c40, c41, c42, c43, c44, c45, c46, c47, c48, c49, c50, c51, c52, c53, c54, c55, c56, c57, c58, c59, c60], []⟩ W := by
  have HG := Lib.hid hG
  have HB0 := Lib.hid hB
  clear hB hG
  have K0 : Hid (∀ W, Below w.heap.size w W → Calls Tryz.prog 21 #[.string ⟨#[49, 32, 124, 124, 32, 49, 32, 47, 32, 48]⟩] W (IntPost (1) W)) := Lib.hid fun W h => by rw [← ex9_4]; exact evx_any _ (by decide) W (HG.out.later h)
  have K1 : Hid (∀ W, Below w.heap.size w W → Calls Tryz.prog 21 #[.string ⟨#[49, 32, 47, 32, 48]⟩] W (IntPost (-1092) W)) := Lib.hid fun W h => by rw [← ex9_5]; exact evx_any _ (by decide) W (HG.out.later h)
  have K2 : Hid (∀ W, Below w.heap.size w W → Calls Tryz.prog 21 #[.string ⟨#[48, 32, 63, 32, 49, 47, 48, 32, 58, 32, 53]⟩] W (IntPost (5) W)) := Lib.hid fun W h => by rw [← ex9_6]; exact evx_any _ (by decide) W (HG.out.later h)
  have K3 : Hid (∀ W, Below w.heap.size w W → Calls Tryz.prog 21 #[.string ⟨#[88, 32, 61, 61, 32, 48, 32, 38, 38, 32, 39, 97, 39, 32, 61, 61, 32, 57, 55]⟩] W (IntPost (1) W)) := Lib.hid fun W h => by rw [← ex9_7]; exact evx_any _ (by decide) W (HG.out.later h)
  refine wp_sec 2 aw9Body rfl ?_
  conv => arg 2; whnf
  go_wp2_with fail
  refine (K0.out _ HB0.out).mono ?_
  rintro e w1 ⟨rfl, hB1⟩
  have HB1 := Lib.hid (Below.then HB0.out hB1)
  clear hB1
  go_wp2_with fail
  refine (K1.out _ HB1.out).mono ?_
  rintro e w2 ⟨rfl, hB2⟩
  have HB2 := Lib.hid (Below.then HB1.out hB2)
  clear hB2
  go_wp2_with fail
  refine (K2.out _ HB2.out).mono ?_
  rintro e w3 ⟨rfl, hB3⟩
  have HB3 := Lib.hid (Below.then HB2.out hB3)
  clear hB3
  go_wp2_with fail
  refine (K3.out _ HB3.out).mono ?_
  rintro e w4 ⟨rfl, hB4⟩
  have HB4 := Lib.hid (Below.then HB3.out hB4)
  clear hB4
  go_wp2_with fail
  exact aw9_3 w _ HG.out HB4.out _ _ _ _ _ _ _ _ _ _ _ _ _ _ _ _ _ _ _ _ _ _ _ _ _ _ _ _ _ _ _ _ _ _ _ _ _ _ _ _ _ _ _ _ _ _ _ _ _ _ _ _ _ _ _ _ _ _ _

set_option maxRecDepth 100000 in
set_option maxHeartbeats 4000000 in
theorem aw9_1 (w W : World) (hG : Gv w) (hB : Below w.heap.size w W) (c0 c1 c2 c3 c4 c5 c6 c7 c8 c9 c10 c11 c12 c13 c14 c15 c16 c17 c18 c19 c20 c21 c22 c23 c24 c25 c26 c27 c28 c29 c30 c31 c32 c33 c34 c35 c36 c37 c38 c39 c40 c41 c42 c43 c44 c45 c46 c47 c48 c49 c50 c51 c52 c53 c54 c55 c56 c57 c58 c59 c60 : Value) :
    Code.wp Tryz.prog (secs 1 aw9Body) (bodyPost Tryz.prog Tryz.f8 (TruePost w)) ⟨#[c0, c1, c2, c3, c4, c5, c6, c7, c8, c9, c10, c11, c12, c13, c14, c15, c16, c17, c18, c19, c20, c21, c22, c23, c24, c25, c26, c27, c28, c29, c30, c31, c32, c33, c34, c35, c36, c37, c38, c39, c40, c41, c42, c43, c44, c45, c46, c47, c48, c49, c50, c51, c52, c53, c54, c55, c56, c57, c58, c59, c60], []⟩ W := by
  have HG := Lib.hid hG
  have HB0 := Lib.hid hB
  clear hB hG
  have K0 : Hid (∀ W, Below w.heap.size w W → Calls Tryz.prog 21 #[.string ⟨#[49, 32, 43, 32, 50, 32, 42, 32, 51]⟩] W (IntPost (7) W)) := Lib.hid fun W h => by rw [← ex9_0]; exact evx_any _ (by decide) W (HG.out.later h)
  have K1 : Hid (∀ W, Below w.heap.size w W → Calls Tryz.prog 21 #[.string ⟨#[40, 49, 32, 43, 32, 50, 41, 32, 42, 32, 51]⟩] W (IntPost (9) W)) := Lib.hid fun W h => by rw [← ex9_1]; exact evx_any _ (by decide) W (HG.out.later h)
  have K2 : Hid (∀ W, Below w.heap.size w W → Calls Tryz.prog 21 #[.string ⟨#[45, 55, 32, 47, 32, 50]⟩] W (IntPost (-3) W)) := Lib.hid fun W h => by rw [← ex9_2]; exact evx_any _ (by decide) W (HG.out.later h)
  have K3 : Hid (∀ W, Below w.heap.size w W → Calls Tryz.prog 21 #[.string ⟨#[45, 55, 32, 37, 32, 50]⟩] W (IntPost (-1) W)) := Lib.hid fun W h => by rw [← ex9_3]; exact evx_any _ (by decide) W (HG.out.later h)
  refine wp_sec 1 aw9Body rfl ?_
  conv => arg 2; whnf
  go_wp2_with fail
  refine (K0.out _ HB0.out).mono ?_
  rintro e w1 ⟨rfl, hB1⟩
  have HB1 := Lib.hid (Below.then HB0.out hB1)
  clear hB1
  go_wp2_with fail
  refine (K1.out _ HB1.out).mono ?_
  rintro e w2 ⟨rfl, hB2⟩
  have HB2 := Lib.hid (Below.then HB1.out hB2)
  clear hB2
  go_wp2_with fail
  refine (K2.out _ HB2.out).mono ?_
  rintro e w3 ⟨rfl, hB3⟩
  have HB3 := Lib.hid (Below.then HB2.out hB3)
  clear hB3
  go_wp2_with fail
  refine (K3.out _ HB3.out).mono ?_
  rintro e w4 ⟨rfl, hB4⟩
  have HB4 := Lib.hid (Below.then HB3.out hB4)
  clear hB4
  go_wp2_with fail
  exact aw9_2 w _ HG.out HB4.out _ _ _ _ _ _ _ _ _ _ _ _ _ _ _ _ _ _ _ _ _ _ _ _ _ _ _ _ _ _ _ _ _ _ _ _ _ _ _ _ _ _ _ _ _ _ _ _ _ _ _ _ _ _ _ _ _ _ _ _

set_option maxRecDepth 100000 in
theorem awake9_any (w : World) (hG : Gv w) : Calls Tryz.prog 8 #[] w (TruePost w) := by
  go_enter Tryz.func8, Tryz.ntmps8
  show Code.wp Tryz.prog (secs 0 aw9Body) _ _ _
  refine wp_sec 0 aw9Body rfl ?_
  conv => arg 2; whnf
  go_wp2_with fail
  exact aw9_1 w w hG (Below.refl _ w) _ _ _ _ _ _ _ _ _ _ _ _ _ _ _ _ _ _ _ _ _ _ _ _ _ _ _ _ _ _ _ _ _ _ _ _ _ _ _ _ _ _ _ _ _ _ _ _ _ _ _ _ _ _ _ _ _ _ _ _ _
end Go.Proofs.YtognifnalfjdgaaGreatDoor

/- What is proved: what the document's own Number tells. -/
namespace Go.Proofs.YtognifnalfjdgaaGreatDoor
open Go.RowKit Go.Shelf

set_option maxRecDepth 100000 in
theorem rdigit9_any (c : UInt8) (w : World) : Calls Tryz.prog 38 #[.int .u8 c.toNat] w fun e w' => e = .returned (.int .i64 (Ie.dig c : Nat)) ∧ w' = w := by
  have hc := c.toNat_lt
  have hd : (Ie.dig c : Int) = if 48 ≤ c.toNat ∧ c.toNat ≤ 57 then (c.toNat : Int) - 48 else if 97 ≤ c.toNat ∧ c.toNat ≤ 102 then (c.toNat : Int) - 97 + 10 else if 65 ≤ c.toNat ∧ c.toNat ≤ 70 then (c.toNat : Int) - 65 + 10 else 99 := by
    unfold Ie.dig
    have h1 : (48 ≤ c ∧ c ≤ 57) ↔ (48 ≤ c.toNat ∧ c.toNat ≤ 57) := by rw [UInt8.le_iff_toNat_le, UInt8.le_iff_toNat_le]; rfl
    have h2 : (97 ≤ c ∧ c ≤ 102) ↔ (97 ≤ c.toNat ∧ c.toNat ≤ 102) := by rw [UInt8.le_iff_toNat_le, UInt8.le_iff_toNat_le]; rfl
    have h3 : (65 ≤ c ∧ c ≤ 70) ↔ (65 ≤ c.toNat ∧ c.toNat ≤ 70) := by rw [UInt8.le_iff_toNat_le, UInt8.le_iff_toNat_le]; rfl
    simp only [h1, h2, h3]
    split
    · omega
    · split
      · omega
      · split
        · omega
        · rfl
  obtain ⟨D, hD⟩ : ∃ D : Int, D = (Ie.dig c : Nat) := ⟨_, rfl⟩
  obtain ⟨C, hC⟩ : ∃ C : Int, C = c.toNat := ⟨_, rfl⟩
  have b0 : 0 ≤ C := by omega
  have b1 : C ≤ 255 := by omega
  by_cases h1 : 48 ≤ c.toNat ∧ c.toNat ≤ 57
  · rw [if_pos h1, ← hD, ← hC] at hd
    have i0 : 48 ≤ C := by omega
    have i1 : C ≤ 57 := by omega
    rw [← hD, ← hC, hd]
    clear hd hD hC h1 hc
    go_enter Tryz.func38, Tryz.ntmps38
    go_wp2_with fail
    go_ret
    exact ⟨rfl, rfl⟩
  rw [if_neg h1] at hd
  by_cases h2 : 97 ≤ c.toNat ∧ c.toNat ≤ 102
  · rw [if_pos h2, ← hD, ← hC] at hd
    have i0 : 97 ≤ C := by omega
    have i1 : C ≤ 102 := by omega
    rw [← hD, ← hC, hd]
    clear hd hD hC h1 h2 hc
    go_enter Tryz.func38, Tryz.ntmps38
    go_wp2_with fail
    go_ret
    exact ⟨rfl, rfl⟩
  rw [if_neg h2] at hd
  by_cases h3 : 65 ≤ c.toNat ∧ c.toNat ≤ 70
  · rw [if_pos h3, ← hD, ← hC] at hd
    have i0 : 65 ≤ C := by omega
    have i1 : C ≤ 70 := by omega
    rw [← hD, ← hC, hd]
    clear hd hD hC h1 h2 h3 hc
    go_enter Tryz.func38, Tryz.ntmps38
    go_wp2_with fail
    go_ret
    exact ⟨rfl, rfl⟩
  rw [if_neg h3, ← hD] at hd
  have j1 : C < 48 ∨ 57 < C := by omega
  have j2 : C < 97 ∨ 102 < C := by omega
  have j3 : C < 65 ∨ 70 < C := by omega
  rw [← hD, ← hC, hd]
  clear hd hD hC h1 h2 h3 hc
  rcases j1 with j1 | j1
  all_goals
    rcases j2 with j2 | j2
    all_goals
      rcases j3 with j3 | j3
      all_goals
        go_enter Tryz.func38, Tryz.ntmps38
        go_wp2_with fail
        try (go_ret; exact ⟨rfl, rfl⟩)

set_option maxRecDepth 100000 in
set_option maxHeartbeats 2000000 in
theorem suffix_any (s : ByteArray) (w : World) : Calls Tryz.prog 39 #[.string s] w fun e w' => e = .returned (.bool (Ie.isSfx s.data.toList)) ∧ w' = w := by
  by_cases h0 : s = ⟨#[]⟩
  · have e0 : (s.toList == []) = true := lit_yes h0
    have hs : Ie.isSfx s.data.toList = true := by rw [h0]; decide
    rw [hs]
    clear hs h0
    go_enter Tryz.func39, Tryz.ntmps39
    go_wp2_with fail
    go_ret
    exact ⟨rfl, rfl⟩
  have e0 : (s.toList == []) = false := lit_no h0
  by_cases h1 : s = ⟨#[117]⟩
  · have e1 : (s.toList == [117]) = true := lit_yes h1
    have hs : Ie.isSfx s.data.toList = true := by rw [h1]; decide
    rw [hs]
    clear hs h1
    go_enter Tryz.func39, Tryz.ntmps39
    go_wp2_with fail
    go_ret
    exact ⟨rfl, rfl⟩
  have e1 : (s.toList == [117]) = false := lit_no h1
  by_cases h2 : s = ⟨#[85]⟩
  · have e2 : (s.toList == [85]) = true := lit_yes h2
    have hs : Ie.isSfx s.data.toList = true := by rw [h2]; decide
    rw [hs]
    clear hs h2
    go_enter Tryz.func39, Tryz.ntmps39
    go_wp2_with fail
    go_ret
    exact ⟨rfl, rfl⟩
  have e2 : (s.toList == [85]) = false := lit_no h2
  by_cases h3 : s = ⟨#[108]⟩
  · have e3 : (s.toList == [108]) = true := lit_yes h3
    have hs : Ie.isSfx s.data.toList = true := by rw [h3]; decide
    rw [hs]
    clear hs h3
    go_enter Tryz.func39, Tryz.ntmps39
    go_wp2_with fail
    go_ret
    exact ⟨rfl, rfl⟩
  have e3 : (s.toList == [108]) = false := lit_no h3
  by_cases h4 : s = ⟨#[76]⟩
  · have e4 : (s.toList == [76]) = true := lit_yes h4
    have hs : Ie.isSfx s.data.toList = true := by rw [h4]; decide
    rw [hs]
    clear hs h4
    go_enter Tryz.func39, Tryz.ntmps39
    go_wp2_with fail
    go_ret
    exact ⟨rfl, rfl⟩
  have e4 : (s.toList == [76]) = false := lit_no h4
  by_cases h5 : s = ⟨#[108, 108]⟩
  · have e5 : (s.toList == [108, 108]) = true := lit_yes h5
    have hs : Ie.isSfx s.data.toList = true := by rw [h5]; decide
    rw [hs]
    clear hs h5
    go_enter Tryz.func39, Tryz.ntmps39
    go_wp2_with fail
    go_ret
    exact ⟨rfl, rfl⟩
  have e5 : (s.toList == [108, 108]) = false := lit_no h5
  by_cases h6 : s = ⟨#[76, 76]⟩
  · have e6 : (s.toList == [76, 76]) = true := lit_yes h6
    have hs : Ie.isSfx s.data.toList = true := by rw [h6]; decide
    rw [hs]
    clear hs h6
    go_enter Tryz.func39, Tryz.ntmps39
    go_wp2_with fail
    go_ret
    exact ⟨rfl, rfl⟩
  have e6 : (s.toList == [76, 76]) = false := lit_no h6
  by_cases h7 : s = ⟨#[117, 108]⟩
  · have e7 : (s.toList == [117, 108]) = true := lit_yes h7
    have hs : Ie.isSfx s.data.toList = true := by rw [h7]; decide
    rw [hs]
    clear hs h7
    go_enter Tryz.func39, Tryz.ntmps39
    go_wp2_with fail
    go_ret
    exact ⟨rfl, rfl⟩
  have e7 : (s.toList == [117, 108]) = false := lit_no h7
  by_cases h8 : s = ⟨#[117, 76]⟩
  · have e8 : (s.toList == [117, 76]) = true := lit_yes h8
    have hs : Ie.isSfx s.data.toList = true := by rw [h8]; decide
    rw [hs]
    clear hs h8
    go_enter Tryz.func39, Tryz.ntmps39
    go_wp2_with fail
    go_ret
    exact ⟨rfl, rfl⟩
  have e8 : (s.toList == [117, 76]) = false := lit_no h8
  by_cases h9 : s = ⟨#[117, 108, 108]⟩
  · have e9 : (s.toList == [117, 108, 108]) = true := lit_yes h9
    have hs : Ie.isSfx s.data.toList = true := by rw [h9]; decide
    rw [hs]
    clear hs h9
    go_enter Tryz.func39, Tryz.ntmps39
    go_wp2_with fail
    go_ret
    exact ⟨rfl, rfl⟩
  have e9 : (s.toList == [117, 108, 108]) = false := lit_no h9
  by_cases h10 : s = ⟨#[117, 76, 76]⟩
  · have e10 : (s.toList == [117, 76, 76]) = true := lit_yes h10
    have hs : Ie.isSfx s.data.toList = true := by rw [h10]; decide
    rw [hs]
    clear hs h10
    go_enter Tryz.func39, Tryz.ntmps39
    go_wp2_with fail
    go_ret
    exact ⟨rfl, rfl⟩
  have e10 : (s.toList == [117, 76, 76]) = false := lit_no h10
  by_cases h11 : s = ⟨#[85, 108]⟩
  · have e11 : (s.toList == [85, 108]) = true := lit_yes h11
    have hs : Ie.isSfx s.data.toList = true := by rw [h11]; decide
    rw [hs]
    clear hs h11
    go_enter Tryz.func39, Tryz.ntmps39
    go_wp2_with fail
    go_ret
    exact ⟨rfl, rfl⟩
  have e11 : (s.toList == [85, 108]) = false := lit_no h11
  by_cases h12 : s = ⟨#[85, 76]⟩
  · have e12 : (s.toList == [85, 76]) = true := lit_yes h12
    have hs : Ie.isSfx s.data.toList = true := by rw [h12]; decide
    rw [hs]
    clear hs h12
    go_enter Tryz.func39, Tryz.ntmps39
    go_wp2_with fail
    go_ret
    exact ⟨rfl, rfl⟩
  have e12 : (s.toList == [85, 76]) = false := lit_no h12
  by_cases h13 : s = ⟨#[85, 108, 108]⟩
  · have e13 : (s.toList == [85, 108, 108]) = true := lit_yes h13
    have hs : Ie.isSfx s.data.toList = true := by rw [h13]; decide
    rw [hs]
    clear hs h13
    go_enter Tryz.func39, Tryz.ntmps39
    go_wp2_with fail
    go_ret
    exact ⟨rfl, rfl⟩
  have e13 : (s.toList == [85, 108, 108]) = false := lit_no h13
  by_cases h14 : s = ⟨#[85, 76, 76]⟩
  · have e14 : (s.toList == [85, 76, 76]) = true := lit_yes h14
    have hs : Ie.isSfx s.data.toList = true := by rw [h14]; decide
    rw [hs]
    clear hs h14
    go_enter Tryz.func39, Tryz.ntmps39
    go_wp2_with fail
    go_ret
    exact ⟨rfl, rfl⟩
  have e14 : (s.toList == [85, 76, 76]) = false := lit_no h14
  by_cases h15 : s = ⟨#[108, 117]⟩
  · have e15 : (s.toList == [108, 117]) = true := lit_yes h15
    have hs : Ie.isSfx s.data.toList = true := by rw [h15]; decide
    rw [hs]
    clear hs h15
    go_enter Tryz.func39, Tryz.ntmps39
    go_wp2_with fail
    go_ret
    exact ⟨rfl, rfl⟩
  have e15 : (s.toList == [108, 117]) = false := lit_no h15
  by_cases h16 : s = ⟨#[108, 85]⟩
  · have e16 : (s.toList == [108, 85]) = true := lit_yes h16
    have hs : Ie.isSfx s.data.toList = true := by rw [h16]; decide
    rw [hs]
    clear hs h16
    go_enter Tryz.func39, Tryz.ntmps39
    go_wp2_with fail
    go_ret
    exact ⟨rfl, rfl⟩
  have e16 : (s.toList == [108, 85]) = false := lit_no h16
  by_cases h17 : s = ⟨#[76, 117]⟩
  · have e17 : (s.toList == [76, 117]) = true := lit_yes h17
    have hs : Ie.isSfx s.data.toList = true := by rw [h17]; decide
    rw [hs]
    clear hs h17
    go_enter Tryz.func39, Tryz.ntmps39
    go_wp2_with fail
    go_ret
    exact ⟨rfl, rfl⟩
  have e17 : (s.toList == [76, 117]) = false := lit_no h17
  by_cases h18 : s = ⟨#[76, 85]⟩
  · have e18 : (s.toList == [76, 85]) = true := lit_yes h18
    have hs : Ie.isSfx s.data.toList = true := by rw [h18]; decide
    rw [hs]
    clear hs h18
    go_enter Tryz.func39, Tryz.ntmps39
    go_wp2_with fail
    go_ret
    exact ⟨rfl, rfl⟩
  have e18 : (s.toList == [76, 85]) = false := lit_no h18
  by_cases h19 : s = ⟨#[108, 108, 117]⟩
  · have e19 : (s.toList == [108, 108, 117]) = true := lit_yes h19
    have hs : Ie.isSfx s.data.toList = true := by rw [h19]; decide
    rw [hs]
    clear hs h19
    go_enter Tryz.func39, Tryz.ntmps39
    go_wp2_with fail
    go_ret
    exact ⟨rfl, rfl⟩
  have e19 : (s.toList == [108, 108, 117]) = false := lit_no h19
  by_cases h20 : s = ⟨#[108, 108, 85]⟩
  · have e20 : (s.toList == [108, 108, 85]) = true := lit_yes h20
    have hs : Ie.isSfx s.data.toList = true := by rw [h20]; decide
    rw [hs]
    clear hs h20
    go_enter Tryz.func39, Tryz.ntmps39
    go_wp2_with fail
    go_ret
    exact ⟨rfl, rfl⟩
  have e20 : (s.toList == [108, 108, 85]) = false := lit_no h20
  by_cases h21 : s = ⟨#[76, 76, 117]⟩
  · have e21 : (s.toList == [76, 76, 117]) = true := lit_yes h21
    have hs : Ie.isSfx s.data.toList = true := by rw [h21]; decide
    rw [hs]
    clear hs h21
    go_enter Tryz.func39, Tryz.ntmps39
    go_wp2_with fail
    go_ret
    exact ⟨rfl, rfl⟩
  have e21 : (s.toList == [76, 76, 117]) = false := lit_no h21
  by_cases h22 : s = ⟨#[76, 76, 85]⟩
  · have e22 : (s.toList == [76, 76, 85]) = true := lit_yes h22
    have hs : Ie.isSfx s.data.toList = true := by rw [h22]; decide
    rw [hs]
    clear hs h22
    go_enter Tryz.func39, Tryz.ntmps39
    go_wp2_with fail
    go_ret
    exact ⟨rfl, rfl⟩
  have e22 : (s.toList == [76, 76, 85]) = false := lit_no h22
  have hs : Ie.isSfx s.data.toList = false := by
    cases hq : Ie.isSfx s.data.toList with
    | false => rfl
    | true =>
      have hm : s.data.toList ∈ Ie.sfxs := by simpa [Ie.isSfx] using hq
      have key : ∀ x, s.data.toList = x → s = ⟨x.toArray⟩ := fun x h => by rw [← h]
      simp only [Ie.sfxs, List.mem_cons, List.not_mem_nil, or_false] at hm
      rcases hm with h | h | h | h | h | h | h | h | h | h | h | h | h | h | h | h | h | h | h | h | h | h | h
      · exact absurd (key _ h) h0
      · exact absurd (key _ h) h1
      · exact absurd (key _ h) h2
      · exact absurd (key _ h) h3
      · exact absurd (key _ h) h4
      · exact absurd (key _ h) h5
      · exact absurd (key _ h) h6
      · exact absurd (key _ h) h7
      · exact absurd (key _ h) h8
      · exact absurd (key _ h) h9
      · exact absurd (key _ h) h10
      · exact absurd (key _ h) h11
      · exact absurd (key _ h) h12
      · exact absurd (key _ h) h13
      · exact absurd (key _ h) h14
      · exact absurd (key _ h) h15
      · exact absurd (key _ h) h16
      · exact absurd (key _ h) h17
      · exact absurd (key _ h) h18
      · exact absurd (key _ h) h19
      · exact absurd (key _ h) h20
      · exact absurd (key _ h) h21
      · exact absurd (key _ h) h22
  rw [hs]
  clear hs h0 h1 h2 h3 h4 h5 h6 h7 h8 h9 h10 h11 h12 h13 h14 h15 h16 h17 h18 h19 h20 h21 h22
  go_enter Tryz.func39, Tryz.ntmps39
  go_wp2_with fail
  go_ret
  exact ⟨rfl, rfl⟩

theorem byte7 {s : ByteArray} {i : Nat} {c : UInt8} (h : s.data.toList[i]? = some c) (hi : i < s.size) : ((s[i]'hi).toNat : Int) = c.toNat := by
  obtain ⟨h1, h2⟩ := List.getElem?_eq_some_iff.1 h
  have : s[i]'hi = c := by rw [← h2]; rfl
  rw [this]
theorem u8_iff {c : UInt8} {k : Nat} (hk : k < 256) : c = UInt8.ofNat k ↔ (c.toNat : Int) = k := by
  constructor
  · intro h
    rw [h, UInt8.toNat_ofNat']
    have : k % 2 ^ 8 = k := Nat.mod_eq_of_lt hk
    omega
  · intro h
    apply UInt8.toNat_inj.1
    rw [UInt8.toNat_ofNat']
    have : k % 2 ^ 8 = k := Nat.mod_eq_of_lt hk
    omega
noncomputable def rnBody : Code := Tryz.f14.body.getD .skip
def RnPost (w : World) (q : Option Nat) (e : Ending) (w' : World) : Prop := e = .returned (.tuple #[.int .i64 (Ie.nv q), .int .i64 (Ie.ne q)]) ∧ Below w.heap.size w w'
set_option maxRecDepth 100000 in
set_option maxHeartbeats 1000000 in
theorem rn8 (s : ByteArray) (i k n : Nat) (_ : s.size ≤ 1000000) (hi : i ≤ s.size) (w : World) (c1 c2 c3 c4 c8 c9 c10 c11 c12 c13 c14 c15 c16 c17 c18 c19 c20 c21 c22 c23 c24 c25 c26 c27 c28 c29 c30 c31 c32 c33 c34 c35 c36 c37 c38 c39 c40 c41 c42 c43 c44 c45 c46 c47 c48 c49 c50 c51 c52 c53 c54 c55 c56 c57 c58 c59 c60 c61 c62 c63 c64 c65 c66 c67 c68 c69 c70 c71 c72 : Value) :
    Code.wp Tryz.prog (secs 8 rnBody) (bodyPost Tryz.prog Tryz.f14 (RnPost w (if i = k then none else if !Ie.isSfx (s.data.toList.drop i) then none else some n))) ⟨#[.string s, c1, c2, c3, c4, .int .i64 i, .int .i64 k, .int .i64 n, c8, c9, c10, c11, c12, c13, c14, c15, c16, c17, c18, c19, c20, c21, c22, c23, c24, c25, c26, c27, c28, c29, c30, c31, c32, c33, c34, c35, c36, c37, c38, c39, c40, c41, c42, c43, c44, c45, c46, c47, c48, c49, c50, c51, c52, c53, c54, c55, c56, c57, c58, c59, c60, c61, c62, c63, c64, c65, c66, c67, c68, c69, c70, c71, c72], []⟩ w := by
  by_cases hik : i = k
  · rw [if_pos hik]
    subst hik
    refine wp_sec 8 rnBody rfl ?_
    conv => arg 2; whnf
    go_wp2_with fail
    go_ret2
    exact ⟨rfl, Below.refl _ _⟩
  · rw [if_neg hik]
    have K1 := suffix_any (s.extract i s.size) w
    have hx : (s.extract i s.size).data.toList = s.data.toList.drop i := by
      rw [Lib.extract_data, List.take_of_length_le]
      rw [List.length_drop, Array.length_toList]
      exact Nat.le_refl _
    rw [hx] at K1
    obtain ⟨q, hq⟩ : ∃ q, q = Ie.isSfx (s.data.toList.drop i) := ⟨_, rfl⟩
    rw [← hq] at K1 ⊢
    have HK := Lib.hid K1
    have z1 : ((i : Int) == k) = false := beq_eq_false_iff_ne.2 (by omega)
    have z2 : (0 : Int) ≤ i := by omega
    have z3 : (i : Int) ≤ s.size := by omega
    clear K1 hx hq
    refine wp_sec 8 rnBody rfl ?_
    conv => arg 2; whnf
    go_wp2_with fail
    refine HK.out.mono ?_
    rintro e w' ⟨rfl, rfl⟩
    cases q with
    | true =>
      go_wp2_with fail
      refine wp_sec 9 rnBody rfl ?_
      conv => arg 2; whnf
      go_wp2_with fail
      conv => arg 2; whnf
      go_wp2_with fail
      go_ret2
      exact ⟨rfl, Below.refl _ _⟩
    | false =>
      go_wp2_with fail
      go_ret2
      exact ⟨rfl, Below.refl _ _⟩

/-- What the digits so far say of the whole. -/
theorem rn_over {b : Nat} (hb : 1 ≤ b) {r : List UInt8} {j : Nat} {c : UInt8} (hc : r[j]? = some c) (hd : Ie.dig c < b) (hall : ∀ x ∈ r.take j, Ie.dig x < b) (hm : Ie.most < Ie.vf b 0 (r.take j) * b + Ie.dig c) :
    Ie.most < Ie.val b (Ie.digs b r) := by
  obtain ⟨hj, e⟩ := List.getElem?_eq_some_iff.1 hc
  have h1 : r = (r.take j ++ [c]) ++ r.drop (j + 1) := by
    rw [List.append_assoc, List.singleton_append]
    have h2 : r.drop j = c :: r.drop (j + 1) := by rw [List.drop_eq_getElem_cons hj, e]
    rw [← h2, List.take_append_drop]
  have h2 : ∃ t, Ie.digs b r = (r.take j ++ [c]) ++ t := by
    refine ⟨(r.drop (j + 1)).takeWhile fun c => decide (Ie.dig c < b), ?_⟩
    unfold Ie.digs
    conv => lhs; rw [h1]
    have hall' : ∀ x ∈ r.take j ++ [c], decide (Ie.dig x < b) = true := fun x hx => by
      rcases List.mem_append.1 hx with hx | hx
      · exact decide_eq_true (hall x hx)
      · rw [List.mem_singleton.1 hx]; exact decide_eq_true hd
    generalize r.take j ++ [c] = D at hall'
    induction D with
    | nil => rfl
    | cons a D ih =>
      rw [List.cons_append, List.takeWhile_cons, if_pos (hall' a List.mem_cons_self), ih fun x hx => hall' x (List.mem_cons_of_mem _ hx)]
      rfl
  obtain ⟨t, ht⟩ := h2
  rw [ht]
  have h3 : Ie.val b ((r.take j ++ [c]) ++ t) = Ie.vf b (Ie.vf b 0 (r.take j) * b + Ie.dig c) t := by
    show List.foldl _ 0 _ = _
    rw [List.foldl_append, List.foldl_append]
    rfl
  rw [h3]
  exact Nat.lt_of_lt_of_le hm (Ie.vf_ge b hb t _)
theorem rn_stop {b : Nat} {r : List UInt8} {j : Nat} (hall : ∀ x ∈ r.take j, Ie.dig x < b) (_ : j ≤ r.length) (hst : ∀ c, r[j]? = some c → ¬ Ie.dig c < b) : Ie.digs b r = r.take j := by
  have h := Ie.takeWhile_app (fun c => decide (Ie.dig c < b)) (r.take j) (r.drop j) (fun c hc => decide_eq_true (hall c hc)) fun c t e => by
    have : r[j]? = some c := by
      have h1 : (r.drop j)[0]? = some c := by rw [e]; rfl
      rw [List.getElem?_drop] at h1
      exact h1
    exact decide_eq_false (hst c this)
  rw [List.take_append_drop] at h
  exact h

set_option maxRecDepth 100000 in
set_option maxHeartbeats 4000000 in
theorem rn7_8 (s : ByteArray) (k : Nat) (hs : s.size ≤ 1000000) (hk : k ≤ s.size) (hst : Ie.start s.data.toList = (k, 8)) (w : World) (c1 c2 c3 c9 c10 c11 c12 c13 c14 c15 c16 c17 c18 c19 c20 c21 c22 c23 c24 c25 c26 c27 c28 c29 c30 c31 c32 c33 c34 c35 c36 c37 c38 c39 c40 c41 c42 c43 c44 c45 c46 c47 c48 c49 c50 c51 c52 c53 c54 c55 c56 c57 c58 c59 c60 c61 c62 c63 c64 c65 c66 c67 c68 c69 c70 c71 c72 : Value) :
    Code.wp Tryz.prog (secs 7 rnBody) (bodyPost Tryz.prog Tryz.f14 (RnPost w (Ie.number s.data.toList))) ⟨#[.string s, c1, c2, c3, .int .i64 8, .int .i64 k, .int .i64 k, .int .i64 0, .int .i64 9223372036854775807, c9, c10, c11, c12, c13, c14, c15, c16, c17, c18, c19, c20, c21, c22, c23, c24, c25, c26, c27, c28, c29, c30, c31, c32, c33, c34, c35, c36, c37, c38, c39, c40, c41, c42, c43, c44, c45, c46, c47, c48, c49, c50, c51, c52, c53, c54, c55, c56, c57, c58, c59, c60, c61, c62, c63, c64, c65, c66, c67, c68, c69, c70, c71, c72], []⟩ w := by
  obtain ⟨r, hr⟩ : ∃ r, r = s.data.toList.drop k := ⟨_, rfl⟩
  have hrl : r.length + k = s.size := by rw [hr, List.length_drop, Array.length_toList]; have : s.data.size = s.size := rfl; omega
  have hnum : Ie.number s.data.toList = if Ie.digs 8 r = [] then none else if !Ie.isSfx (r.drop (Ie.digs 8 r).length) then none else if Ie.most < Ie.val 8 (Ie.digs 8 r) then none else some (Ie.val 8 (Ie.digs 8 r)) := by
    unfold Ie.number
    rw [hst]
    dsimp only
    rw [← hr]
  obtain ⟨Q, hQ⟩ : ∃ Q, Q = Ie.number s.data.toList := ⟨_, rfl⟩
  rw [← hQ] at hnum ⊢
  have HNUM := Lib.hid hnum
  have HR := Lib.hid hr
  have HRL := Lib.hid hrl
  have hend : ∀ (j : Nat), j ≤ r.length → (∀ x ∈ r.take j, Ie.dig x < 8) → (∀ c, r[j]? = some c → ¬ Ie.dig c < 8) → Ie.vf 8 0 (r.take j) ≤ 9223372036854775807 →
      Q = if k + j = k then none else if !Ie.isSfx (s.data.toList.drop (k + j)) then none else some (Ie.vf 8 0 (r.take j)) := fun j hj hall hstop hm => by
    rw [HNUM.out, rn_stop hall hj hstop]
    have e1 : (r.take j).length = j := by rw [List.length_take]; omega
    have e2 : r.drop j = s.data.toList.drop (k + j) := by rw [HR.out, List.drop_drop]
    rw [e1, e2]
    have e3 : Ie.val 8 (r.take j) = Ie.vf 8 0 (r.take j) := rfl
    rw [e3, if_neg (show ¬ Ie.most < Ie.vf 8 0 (r.take j) by unfold Ie.most; omega)]
    by_cases h0 : j = 0
    · rw [if_pos (show r.take j = [] by rw [h0]; rfl), if_pos (show k + j = k by omega)]
    · rw [if_neg (show ¬ r.take j = [] from fun e => h0 (by rw [e] at e1; exact e1.symm)), if_neg (show ¬ k + j = k by omega)]
  have HEND := Lib.hid hend
  clear hnum hr hrl hend hQ hst
  refine wp_sec 7 rnBody rfl ?_
  conv => arg 2; whnf
  go_wp2_with fail
  go_loop [5, 7] (fun vi vn => ∃ (j : Nat) (acc : Nat), vi = .int .i64 ((k + j : Nat) : Int) ∧ vn = .int .i64 acc ∧ j ≤ r.length ∧ acc ≤ 9223372036854775807 ∧ Hid (acc = Ie.vf 8 0 (r.take j) ∧ ∀ x ∈ r.take j, Ie.dig x < 8))
    (fun vi _ => s.size - (intOf vi).toNat)
  case atStart => exact ⟨0, 0, rfl, rfl, Nat.zero_le _, by omega, Lib.hid ⟨rfl, fun x hx => by simp at hx⟩⟩
  case round =>
    obtain ⟨j, acc, rfl, rfl, hj, hacc, hh⟩ := hrel
    have hrl := HRL.out
    by_cases hlt : j < r.length
    · obtain ⟨c, hc⟩ : ∃ c, r[j]? = some c := ⟨_, List.getElem?_eq_getElem hlt⟩
      have hsc : s.data.toList[k + j]? = some c := by rw [HR.out, List.getElem?_drop] at hc; exact hc
      have hi1 : k + j < s.size := by omega
      obtain ⟨h1, h2⟩ := List.getElem?_eq_some_iff.1 hsc
      obtain ⟨i, hi⟩ : ∃ i, i = k + j := ⟨_, rfl⟩
      rw [← hi] at hi1 hsc
      have g0 : ((s[i]'hi1).toNat : Int) = c.toNat := by
        obtain ⟨h1, h2⟩ := List.getElem?_eq_some_iff.1 hsc
        have : s[i]'hi1 = c := by rw [← h2]; rfl
        rw [this]
      rw [← hi]
      obtain ⟨D, hD⟩ : ∃ D, D = Ie.dig c := ⟨_, rfl⟩
      have K1 := rdigit9_any c w
      rw [← hD] at K1
      have HK := Lib.hid K1
      have HC := Lib.hid hc
      have HD := Lib.hid hD
      have HI := Lib.hid hi
      obtain ⟨C, hC⟩ : ∃ C : Int, C = c.toNat := ⟨_, rfl⟩
      rw [← hC] at g0 HK
      have z0 : (0 : Int) ≤ i := by omega
      have z1 : (i : Int) < s.size := by omega
      have HJ := Lib.hid (And.intro hj hlt)
      clear hsc h1 h2 K1 hc hD hi hC hj hlt hrl
      by_cases hd : D < 8
      · have hd1 : (D : Int) < 8 := by omega
        have hdm : (0 : Int) ≤ D := by omega
        by_cases hov : 9223372036854775807 < acc * 8 + D
        · have hq : Q = none := by
            rw [HNUM.out]
            have h3 := rn_over (by decide) HC.out (by rw [← HD.out]; exact hd) hh.out.2 (by rw [← hh.out.1, ← HD.out]; exact hov)
            rw [if_pos h3]
            split
            · rfl
            · split <;> rfl
          have HQN := Lib.hid hq
          have hg : ((9223372036854775807 - (D : Int)).tdiv 8) < acc := by rw [Int.tdiv_eq_ediv_of_nonneg (by omega)]; omega
          have hw1 : IntKind.i64.wrap ((9223372036854775807 - (D : Int)).tdiv 8) = (9223372036854775807 - (D : Int)).tdiv 8 := by
            have : 0 ≤ ((9223372036854775807 - (D : Int)).tdiv 8) := by rw [Int.tdiv_eq_ediv_of_nonneg (by omega)]; omega
            exact IntWalk.i64_in _ (by omega)
          obtain ⟨qq, hqq⟩ : ∃ qq, qq = (9223372036854775807 - (D : Int)).tdiv 8 := ⟨_, rfl⟩
          rw [← hqq] at hg
          clear hov hq
          go_wp2_with fail
          refine HK.out.mono ?_
          rintro e w' ⟨rfl, rfl⟩
          go_wp2_with fail
          go_ret2
          exact ⟨by rw [HQN.out]; rfl, Below.refl _ _⟩
        · have hg : (acc : Int) ≤ ((9223372036854775807 - (D : Int)).tdiv 8) := by rw [Int.tdiv_eq_ediv_of_nonneg (by omega)]; omega
          have hw1 : IntKind.i64.wrap ((9223372036854775807 - (D : Int)).tdiv 8) = (9223372036854775807 - (D : Int)).tdiv 8 := by
            have : 0 ≤ ((9223372036854775807 - (D : Int)).tdiv 8) := by rw [Int.tdiv_eq_ediv_of_nonneg (by omega)]; omega
            have : ((9223372036854775807 - (D : Int)).tdiv 8) ≤ 9223372036854775807 := by rw [Int.tdiv_eq_ediv_of_nonneg (by omega)]; omega
            exact IntWalk.i64_in _ (by omega)
          have hn1 : (acc : Int) * 8 + D ≤ 9223372036854775807 := by omega
          have HHH := Lib.hid hh.out
          have HOV := Lib.hid hov
          clear hov hh
          go_wp2_with fail
          refine HK.out.mono ?_
          rintro e w' ⟨rfl, rfl⟩
          go_wp2_with fail
          go_round
          case rel =>
            refine ⟨j + 1, acc * 8 + D, ?_, ?_, by have := HJ.out.2; omega, by have := HOV.out; omega, Lib.hid ⟨?_, ?_⟩⟩
            · have := HI.out
              first | (congr 1; omega) | (congr 1)
            · first | rfl | (congr 1; done) | (congr 1; omega)
            · rw [List.take_succ_eq_append_getElem HJ.out.2]
              have e : r[j]'HJ.out.2 = c := by
                have := HC.out
                rw [List.getElem?_eq_getElem HJ.out.2] at this
                exact Option.some.inj this
              rw [e]
              show _ = List.foldl _ 0 _
              rw [List.foldl_append]
              show _ = Ie.vf 8 0 (r.take j) * 8 + Ie.dig c
              rw [← HHH.out.1, ← HD.out]
            · intro x hx
              rw [List.take_succ_eq_append_getElem HJ.out.2] at hx
              rcases List.mem_append.1 hx with hx | hx
              · exact HHH.out.2 x hx
              · have e : r[j]'HJ.out.2 = c := by
                  have := HC.out
                  rw [List.getElem?_eq_getElem HJ.out.2] at this
                  exact Option.some.inj this
                rw [List.mem_singleton.1 hx, e, ← HD.out]
                exact hd
          case measure => simp [intOf]; omega
      · have hd1 : (8 : Int) ≤ D := by omega
        have hQ2 := HEND.out j HJ.out.1 hh.out.2 (fun c' hc' => by
          have := HC.out
          rw [hc'] at this
          rw [Option.some.inj this, ← HD.out]
          exact hd) (by rw [← hh.out.1]; exact hacc)
        rw [← hh.out.1, ← HI.out] at hQ2
        have HQ2 := Lib.hid hQ2
        have HI1 := Lib.hid (show i ≤ s.size by omega)
        clear hQ2 hh
        go_wp2_with fail
        refine HK.out.mono ?_
        rintro e w' ⟨rfl, rfl⟩
        go_wp2_with fail
        rw [HQ2.out]
        exact rn8 s i k acc hs HI1.out w' _ _ _ _ _ _ _ _ _ _ _ _ _ _ _ _ _ _ _ _ _ _ _ _ _ _ _ _ _ _ _ _ _ _ _ _ _ _ _ _ _ _ _ _ _ _ _ _ _ _ _ _ _ _ _ _ _ _ _ _ _ _ _ _ _ _ _ _ _
    · obtain rfl : j = r.length := by omega
      have hQ2 := HEND.out r.length hj hh.out.2 (fun c' hc' => by rw [List.getElem?_eq_none (Nat.le_refl _)] at hc'; cases hc') (by rw [← hh.out.1]; exact hacc)
      rw [← hh.out.1] at hQ2
      have HQ2 := Lib.hid hQ2
      have hks : k + r.length = s.size := by omega
      rw [hks] at HQ2 ⊢
      clear hQ2 hh
      go_wp2_with fail
      rw [HQ2.out]
      exact rn8 s s.size k acc hs (Nat.le_refl _) w _ _ _ _ _ _ _ _ _ _ _ _ _ _ _ _ _ _ _ _ _ _ _ _ _ _ _ _ _ _ _ _ _ _ _ _ _ _ _ _ _ _ _ _ _ _ _ _ _ _ _ _ _ _ _ _ _ _ _ _ _ _ _ _ _ _ _ _ _

set_option maxRecDepth 100000 in
set_option maxHeartbeats 4000000 in
theorem rn7_10 (s : ByteArray) (k : Nat) (hs : s.size ≤ 1000000) (hk : k ≤ s.size) (hst : Ie.start s.data.toList = (k, 10)) (w : World) (c1 c2 c3 c9 c10 c11 c12 c13 c14 c15 c16 c17 c18 c19 c20 c21 c22 c23 c24 c25 c26 c27 c28 c29 c30 c31 c32 c33 c34 c35 c36 c37 c38 c39 c40 c41 c42 c43 c44 c45 c46 c47 c48 c49 c50 c51 c52 c53 c54 c55 c56 c57 c58 c59 c60 c61 c62 c63 c64 c65 c66 c67 c68 c69 c70 c71 c72 : Value) :
    Code.wp Tryz.prog (secs 7 rnBody) (bodyPost Tryz.prog Tryz.f14 (RnPost w (Ie.number s.data.toList))) ⟨#[.string s, c1, c2, c3, .int .i64 10, .int .i64 k, .int .i64 k, .int .i64 0, .int .i64 9223372036854775807, c9, c10, c11, c12, c13, c14, c15, c16, c17, c18, c19, c20, c21, c22, c23, c24, c25, c26, c27, c28, c29, c30, c31, c32, c33, c34, c35, c36, c37, c38, c39, c40, c41, c42, c43, c44, c45, c46, c47, c48, c49, c50, c51, c52, c53, c54, c55, c56, c57, c58, c59, c60, c61, c62, c63, c64, c65, c66, c67, c68, c69, c70, c71, c72], []⟩ w := by
  obtain ⟨r, hr⟩ : ∃ r, r = s.data.toList.drop k := ⟨_, rfl⟩
  have hrl : r.length + k = s.size := by rw [hr, List.length_drop, Array.length_toList]; have : s.data.size = s.size := rfl; omega
  have hnum : Ie.number s.data.toList = if Ie.digs 10 r = [] then none else if !Ie.isSfx (r.drop (Ie.digs 10 r).length) then none else if Ie.most < Ie.val 10 (Ie.digs 10 r) then none else some (Ie.val 10 (Ie.digs 10 r)) := by
    unfold Ie.number
    rw [hst]
    dsimp only
    rw [← hr]
  obtain ⟨Q, hQ⟩ : ∃ Q, Q = Ie.number s.data.toList := ⟨_, rfl⟩
  rw [← hQ] at hnum ⊢
  have HNUM := Lib.hid hnum
  have HR := Lib.hid hr
  have HRL := Lib.hid hrl
  have hend : ∀ (j : Nat), j ≤ r.length → (∀ x ∈ r.take j, Ie.dig x < 10) → (∀ c, r[j]? = some c → ¬ Ie.dig c < 10) → Ie.vf 10 0 (r.take j) ≤ 9223372036854775807 →
      Q = if k + j = k then none else if !Ie.isSfx (s.data.toList.drop (k + j)) then none else some (Ie.vf 10 0 (r.take j)) := fun j hj hall hstop hm => by
    rw [HNUM.out, rn_stop hall hj hstop]
    have e1 : (r.take j).length = j := by rw [List.length_take]; omega
    have e2 : r.drop j = s.data.toList.drop (k + j) := by rw [HR.out, List.drop_drop]
    rw [e1, e2]
    have e3 : Ie.val 10 (r.take j) = Ie.vf 10 0 (r.take j) := rfl
    rw [e3, if_neg (show ¬ Ie.most < Ie.vf 10 0 (r.take j) by unfold Ie.most; omega)]
    by_cases h0 : j = 0
    · rw [if_pos (show r.take j = [] by rw [h0]; rfl), if_pos (show k + j = k by omega)]
    · rw [if_neg (show ¬ r.take j = [] from fun e => h0 (by rw [e] at e1; exact e1.symm)), if_neg (show ¬ k + j = k by omega)]
  have HEND := Lib.hid hend
  clear hnum hr hrl hend hQ hst
  refine wp_sec 7 rnBody rfl ?_
  conv => arg 2; whnf
  go_wp2_with fail
  go_loop [5, 7] (fun vi vn => ∃ (j : Nat) (acc : Nat), vi = .int .i64 ((k + j : Nat) : Int) ∧ vn = .int .i64 acc ∧ j ≤ r.length ∧ acc ≤ 9223372036854775807 ∧ Hid (acc = Ie.vf 10 0 (r.take j) ∧ ∀ x ∈ r.take j, Ie.dig x < 10))
    (fun vi _ => s.size - (intOf vi).toNat)
  case atStart => exact ⟨0, 0, rfl, rfl, Nat.zero_le _, by omega, Lib.hid ⟨rfl, fun x hx => by simp at hx⟩⟩
  case round =>
    obtain ⟨j, acc, rfl, rfl, hj, hacc, hh⟩ := hrel
    have hrl := HRL.out
    by_cases hlt : j < r.length
    · obtain ⟨c, hc⟩ : ∃ c, r[j]? = some c := ⟨_, List.getElem?_eq_getElem hlt⟩
      have hsc : s.data.toList[k + j]? = some c := by rw [HR.out, List.getElem?_drop] at hc; exact hc
      have hi1 : k + j < s.size := by omega
      obtain ⟨h1, h2⟩ := List.getElem?_eq_some_iff.1 hsc
      obtain ⟨i, hi⟩ : ∃ i, i = k + j := ⟨_, rfl⟩
      rw [← hi] at hi1 hsc
      have g0 : ((s[i]'hi1).toNat : Int) = c.toNat := by
        obtain ⟨h1, h2⟩ := List.getElem?_eq_some_iff.1 hsc
        have : s[i]'hi1 = c := by rw [← h2]; rfl
        rw [this]
      rw [← hi]
      obtain ⟨D, hD⟩ : ∃ D, D = Ie.dig c := ⟨_, rfl⟩
      have K1 := rdigit9_any c w
      rw [← hD] at K1
      have HK := Lib.hid K1
      have HC := Lib.hid hc
      have HD := Lib.hid hD
      have HI := Lib.hid hi
      obtain ⟨C, hC⟩ : ∃ C : Int, C = c.toNat := ⟨_, rfl⟩
      rw [← hC] at g0 HK
      have z0 : (0 : Int) ≤ i := by omega
      have z1 : (i : Int) < s.size := by omega
      have HJ := Lib.hid (And.intro hj hlt)
      clear hsc h1 h2 K1 hc hD hi hC hj hlt hrl
      by_cases hd : D < 10
      · have hd1 : (D : Int) < 10 := by omega
        have hdm : (0 : Int) ≤ D := by omega
        by_cases hov : 9223372036854775807 < acc * 10 + D
        · have hq : Q = none := by
            rw [HNUM.out]
            have h3 := rn_over (by decide) HC.out (by rw [← HD.out]; exact hd) hh.out.2 (by rw [← hh.out.1, ← HD.out]; exact hov)
            rw [if_pos h3]
            split
            · rfl
            · split <;> rfl
          have HQN := Lib.hid hq
          have hg : ((9223372036854775807 - (D : Int)).tdiv 10) < acc := by rw [Int.tdiv_eq_ediv_of_nonneg (by omega)]; omega
          have hw1 : IntKind.i64.wrap ((9223372036854775807 - (D : Int)).tdiv 10) = (9223372036854775807 - (D : Int)).tdiv 10 := by
            have : 0 ≤ ((9223372036854775807 - (D : Int)).tdiv 10) := by rw [Int.tdiv_eq_ediv_of_nonneg (by omega)]; omega
            exact IntWalk.i64_in _ (by omega)
          obtain ⟨qq, hqq⟩ : ∃ qq, qq = (9223372036854775807 - (D : Int)).tdiv 10 := ⟨_, rfl⟩
          rw [← hqq] at hg
          clear hov hq
          go_wp2_with fail
          refine HK.out.mono ?_
          rintro e w' ⟨rfl, rfl⟩
          go_wp2_with fail
          go_ret2
          exact ⟨by rw [HQN.out]; rfl, Below.refl _ _⟩
        · have hg : (acc : Int) ≤ ((9223372036854775807 - (D : Int)).tdiv 10) := by rw [Int.tdiv_eq_ediv_of_nonneg (by omega)]; omega
          have hw1 : IntKind.i64.wrap ((9223372036854775807 - (D : Int)).tdiv 10) = (9223372036854775807 - (D : Int)).tdiv 10 := by
            have : 0 ≤ ((9223372036854775807 - (D : Int)).tdiv 10) := by rw [Int.tdiv_eq_ediv_of_nonneg (by omega)]; omega
            have : ((9223372036854775807 - (D : Int)).tdiv 10) ≤ 9223372036854775807 := by rw [Int.tdiv_eq_ediv_of_nonneg (by omega)]; omega
            exact IntWalk.i64_in _ (by omega)
          have hn1 : (acc : Int) * 10 + D ≤ 9223372036854775807 := by omega
          have HHH := Lib.hid hh.out
          have HOV := Lib.hid hov
          clear hov hh
          go_wp2_with fail
          refine HK.out.mono ?_
          rintro e w' ⟨rfl, rfl⟩
          go_wp2_with fail
          go_round
          case rel =>
            refine ⟨j + 1, acc * 10 + D, ?_, ?_, by have := HJ.out.2; omega, by have := HOV.out; omega, Lib.hid ⟨?_, ?_⟩⟩
            · have := HI.out
              first | (congr 1; omega) | (congr 1)
            · first | rfl | (congr 1; done) | (congr 1; omega)
            · rw [List.take_succ_eq_append_getElem HJ.out.2]
              have e : r[j]'HJ.out.2 = c := by
                have := HC.out
                rw [List.getElem?_eq_getElem HJ.out.2] at this
                exact Option.some.inj this
              rw [e]
              show _ = List.foldl _ 0 _
              rw [List.foldl_append]
              show _ = Ie.vf 10 0 (r.take j) * 10 + Ie.dig c
              rw [← HHH.out.1, ← HD.out]
            · intro x hx
              rw [List.take_succ_eq_append_getElem HJ.out.2] at hx
              rcases List.mem_append.1 hx with hx | hx
              · exact HHH.out.2 x hx
              · have e : r[j]'HJ.out.2 = c := by
                  have := HC.out
                  rw [List.getElem?_eq_getElem HJ.out.2] at this
                  exact Option.some.inj this
                rw [List.mem_singleton.1 hx, e, ← HD.out]
                exact hd
          case measure => simp [intOf]; omega
      · have hd1 : (10 : Int) ≤ D := by omega
        have hQ2 := HEND.out j HJ.out.1 hh.out.2 (fun c' hc' => by
          have := HC.out
          rw [hc'] at this
          rw [Option.some.inj this, ← HD.out]
          exact hd) (by rw [← hh.out.1]; exact hacc)
        rw [← hh.out.1, ← HI.out] at hQ2
        have HQ2 := Lib.hid hQ2
        have HI1 := Lib.hid (show i ≤ s.size by omega)
        clear hQ2 hh
        go_wp2_with fail
        refine HK.out.mono ?_
        rintro e w' ⟨rfl, rfl⟩
        go_wp2_with fail
        rw [HQ2.out]
        exact rn8 s i k acc hs HI1.out w' _ _ _ _ _ _ _ _ _ _ _ _ _ _ _ _ _ _ _ _ _ _ _ _ _ _ _ _ _ _ _ _ _ _ _ _ _ _ _ _ _ _ _ _ _ _ _ _ _ _ _ _ _ _ _ _ _ _ _ _ _ _ _ _ _ _ _ _ _
    · obtain rfl : j = r.length := by omega
      have hQ2 := HEND.out r.length hj hh.out.2 (fun c' hc' => by rw [List.getElem?_eq_none (Nat.le_refl _)] at hc'; cases hc') (by rw [← hh.out.1]; exact hacc)
      rw [← hh.out.1] at hQ2
      have HQ2 := Lib.hid hQ2
      have hks : k + r.length = s.size := by omega
      rw [hks] at HQ2 ⊢
      clear hQ2 hh
      go_wp2_with fail
      rw [HQ2.out]
      exact rn8 s s.size k acc hs (Nat.le_refl _) w _ _ _ _ _ _ _ _ _ _ _ _ _ _ _ _ _ _ _ _ _ _ _ _ _ _ _ _ _ _ _ _ _ _ _ _ _ _ _ _ _ _ _ _ _ _ _ _ _ _ _ _ _ _ _ _ _ _ _ _ _ _ _ _ _ _ _ _ _

set_option maxRecDepth 100000 in
set_option maxHeartbeats 4000000 in
theorem rn7_16 (s : ByteArray) (k : Nat) (hs : s.size ≤ 1000000) (hk : k ≤ s.size) (hst : Ie.start s.data.toList = (k, 16)) (w : World) (c1 c2 c3 c9 c10 c11 c12 c13 c14 c15 c16 c17 c18 c19 c20 c21 c22 c23 c24 c25 c26 c27 c28 c29 c30 c31 c32 c33 c34 c35 c36 c37 c38 c39 c40 c41 c42 c43 c44 c45 c46 c47 c48 c49 c50 c51 c52 c53 c54 c55 c56 c57 c58 c59 c60 c61 c62 c63 c64 c65 c66 c67 c68 c69 c70 c71 c72 : Value) :
    Code.wp Tryz.prog (secs 7 rnBody) (bodyPost Tryz.prog Tryz.f14 (RnPost w (Ie.number s.data.toList))) ⟨#[.string s, c1, c2, c3, .int .i64 16, .int .i64 k, .int .i64 k, .int .i64 0, .int .i64 9223372036854775807, c9, c10, c11, c12, c13, c14, c15, c16, c17, c18, c19, c20, c21, c22, c23, c24, c25, c26, c27, c28, c29, c30, c31, c32, c33, c34, c35, c36, c37, c38, c39, c40, c41, c42, c43, c44, c45, c46, c47, c48, c49, c50, c51, c52, c53, c54, c55, c56, c57, c58, c59, c60, c61, c62, c63, c64, c65, c66, c67, c68, c69, c70, c71, c72], []⟩ w := by
  obtain ⟨r, hr⟩ : ∃ r, r = s.data.toList.drop k := ⟨_, rfl⟩
  have hrl : r.length + k = s.size := by rw [hr, List.length_drop, Array.length_toList]; have : s.data.size = s.size := rfl; omega
  have hnum : Ie.number s.data.toList = if Ie.digs 16 r = [] then none else if !Ie.isSfx (r.drop (Ie.digs 16 r).length) then none else if Ie.most < Ie.val 16 (Ie.digs 16 r) then none else some (Ie.val 16 (Ie.digs 16 r)) := by
    unfold Ie.number
    rw [hst]
    dsimp only
    rw [← hr]
  obtain ⟨Q, hQ⟩ : ∃ Q, Q = Ie.number s.data.toList := ⟨_, rfl⟩
  rw [← hQ] at hnum ⊢
  have HNUM := Lib.hid hnum
  have HR := Lib.hid hr
  have HRL := Lib.hid hrl
  have hend : ∀ (j : Nat), j ≤ r.length → (∀ x ∈ r.take j, Ie.dig x < 16) → (∀ c, r[j]? = some c → ¬ Ie.dig c < 16) → Ie.vf 16 0 (r.take j) ≤ 9223372036854775807 →
      Q = if k + j = k then none else if !Ie.isSfx (s.data.toList.drop (k + j)) then none else some (Ie.vf 16 0 (r.take j)) := fun j hj hall hstop hm => by
    rw [HNUM.out, rn_stop hall hj hstop]
    have e1 : (r.take j).length = j := by rw [List.length_take]; omega
    have e2 : r.drop j = s.data.toList.drop (k + j) := by rw [HR.out, List.drop_drop]
    rw [e1, e2]
    have e3 : Ie.val 16 (r.take j) = Ie.vf 16 0 (r.take j) := rfl
    rw [e3, if_neg (show ¬ Ie.most < Ie.vf 16 0 (r.take j) by unfold Ie.most; omega)]
    by_cases h0 : j = 0
    · rw [if_pos (show r.take j = [] by rw [h0]; rfl), if_pos (show k + j = k by omega)]
    · rw [if_neg (show ¬ r.take j = [] from fun e => h0 (by rw [e] at e1; exact e1.symm)), if_neg (show ¬ k + j = k by omega)]
  have HEND := Lib.hid hend
  clear hnum hr hrl hend hQ hst
  refine wp_sec 7 rnBody rfl ?_
  conv => arg 2; whnf
  go_wp2_with fail
  go_loop [5, 7] (fun vi vn => ∃ (j : Nat) (acc : Nat), vi = .int .i64 ((k + j : Nat) : Int) ∧ vn = .int .i64 acc ∧ j ≤ r.length ∧ acc ≤ 9223372036854775807 ∧ Hid (acc = Ie.vf 16 0 (r.take j) ∧ ∀ x ∈ r.take j, Ie.dig x < 16))
    (fun vi _ => s.size - (intOf vi).toNat)
  case atStart => exact ⟨0, 0, rfl, rfl, Nat.zero_le _, by omega, Lib.hid ⟨rfl, fun x hx => by simp at hx⟩⟩
  case round =>
    obtain ⟨j, acc, rfl, rfl, hj, hacc, hh⟩ := hrel
    have hrl := HRL.out
    by_cases hlt : j < r.length
    · obtain ⟨c, hc⟩ : ∃ c, r[j]? = some c := ⟨_, List.getElem?_eq_getElem hlt⟩
      have hsc : s.data.toList[k + j]? = some c := by rw [HR.out, List.getElem?_drop] at hc; exact hc
      have hi1 : k + j < s.size := by omega
      obtain ⟨h1, h2⟩ := List.getElem?_eq_some_iff.1 hsc
      obtain ⟨i, hi⟩ : ∃ i, i = k + j := ⟨_, rfl⟩
      rw [← hi] at hi1 hsc
      have g0 : ((s[i]'hi1).toNat : Int) = c.toNat := by
        obtain ⟨h1, h2⟩ := List.getElem?_eq_some_iff.1 hsc
        have : s[i]'hi1 = c := by rw [← h2]; rfl
        rw [this]
      rw [← hi]
      obtain ⟨D, hD⟩ : ∃ D, D = Ie.dig c := ⟨_, rfl⟩
      have K1 := rdigit9_any c w
      rw [← hD] at K1
      have HK := Lib.hid K1
      have HC := Lib.hid hc
      have HD := Lib.hid hD
      have HI := Lib.hid hi
      obtain ⟨C, hC⟩ : ∃ C : Int, C = c.toNat := ⟨_, rfl⟩
      rw [← hC] at g0 HK
      have z0 : (0 : Int) ≤ i := by omega
      have z1 : (i : Int) < s.size := by omega
      have HJ := Lib.hid (And.intro hj hlt)
      clear hsc h1 h2 K1 hc hD hi hC hj hlt hrl
      by_cases hd : D < 16
      · have hd1 : (D : Int) < 16 := by omega
        have hdm : (0 : Int) ≤ D := by omega
        by_cases hov : 9223372036854775807 < acc * 16 + D
        · have hq : Q = none := by
            rw [HNUM.out]
            have h3 := rn_over (by decide) HC.out (by rw [← HD.out]; exact hd) hh.out.2 (by rw [← hh.out.1, ← HD.out]; exact hov)
            rw [if_pos h3]
            split
            · rfl
            · split <;> rfl
          have HQN := Lib.hid hq
          have hg : ((9223372036854775807 - (D : Int)).tdiv 16) < acc := by rw [Int.tdiv_eq_ediv_of_nonneg (by omega)]; omega
          have hw1 : IntKind.i64.wrap ((9223372036854775807 - (D : Int)).tdiv 16) = (9223372036854775807 - (D : Int)).tdiv 16 := by
            have : 0 ≤ ((9223372036854775807 - (D : Int)).tdiv 16) := by rw [Int.tdiv_eq_ediv_of_nonneg (by omega)]; omega
            exact IntWalk.i64_in _ (by omega)
          obtain ⟨qq, hqq⟩ : ∃ qq, qq = (9223372036854775807 - (D : Int)).tdiv 16 := ⟨_, rfl⟩
          rw [← hqq] at hg
          clear hov hq
          go_wp2_with fail
          refine HK.out.mono ?_
          rintro e w' ⟨rfl, rfl⟩
          go_wp2_with fail
          go_ret2
          exact ⟨by rw [HQN.out]; rfl, Below.refl _ _⟩
        · have hg : (acc : Int) ≤ ((9223372036854775807 - (D : Int)).tdiv 16) := by rw [Int.tdiv_eq_ediv_of_nonneg (by omega)]; omega
          have hw1 : IntKind.i64.wrap ((9223372036854775807 - (D : Int)).tdiv 16) = (9223372036854775807 - (D : Int)).tdiv 16 := by
            have : 0 ≤ ((9223372036854775807 - (D : Int)).tdiv 16) := by rw [Int.tdiv_eq_ediv_of_nonneg (by omega)]; omega
            have : ((9223372036854775807 - (D : Int)).tdiv 16) ≤ 9223372036854775807 := by rw [Int.tdiv_eq_ediv_of_nonneg (by omega)]; omega
            exact IntWalk.i64_in _ (by omega)
          have hn1 : (acc : Int) * 16 + D ≤ 9223372036854775807 := by omega
          have HHH := Lib.hid hh.out
          have HOV := Lib.hid hov
          clear hov hh
          go_wp2_with fail
          refine HK.out.mono ?_
          rintro e w' ⟨rfl, rfl⟩
          go_wp2_with fail
          go_round
          case rel =>
            refine ⟨j + 1, acc * 16 + D, ?_, ?_, by have := HJ.out.2; omega, by have := HOV.out; omega, Lib.hid ⟨?_, ?_⟩⟩
            · have := HI.out
              first | (congr 1; omega) | (congr 1)
            · first | rfl | (congr 1; done) | (congr 1; omega)
            · rw [List.take_succ_eq_append_getElem HJ.out.2]
              have e : r[j]'HJ.out.2 = c := by
                have := HC.out
                rw [List.getElem?_eq_getElem HJ.out.2] at this
                exact Option.some.inj this
              rw [e]
              show _ = List.foldl _ 0 _
              rw [List.foldl_append]
              show _ = Ie.vf 16 0 (r.take j) * 16 + Ie.dig c
              rw [← HHH.out.1, ← HD.out]
            · intro x hx
              rw [List.take_succ_eq_append_getElem HJ.out.2] at hx
              rcases List.mem_append.1 hx with hx | hx
              · exact HHH.out.2 x hx
              · have e : r[j]'HJ.out.2 = c := by
                  have := HC.out
                  rw [List.getElem?_eq_getElem HJ.out.2] at this
                  exact Option.some.inj this
                rw [List.mem_singleton.1 hx, e, ← HD.out]
                exact hd
          case measure => simp [intOf]; omega
      · have hd1 : (16 : Int) ≤ D := by omega
        have hQ2 := HEND.out j HJ.out.1 hh.out.2 (fun c' hc' => by
          have := HC.out
          rw [hc'] at this
          rw [Option.some.inj this, ← HD.out]
          exact hd) (by rw [← hh.out.1]; exact hacc)
        rw [← hh.out.1, ← HI.out] at hQ2
        have HQ2 := Lib.hid hQ2
        have HI1 := Lib.hid (show i ≤ s.size by omega)
        clear hQ2 hh
        go_wp2_with fail
        refine HK.out.mono ?_
        rintro e w' ⟨rfl, rfl⟩
        go_wp2_with fail
        rw [HQ2.out]
        exact rn8 s i k acc hs HI1.out w' _ _ _ _ _ _ _ _ _ _ _ _ _ _ _ _ _ _ _ _ _ _ _ _ _ _ _ _ _ _ _ _ _ _ _ _ _ _ _ _ _ _ _ _ _ _ _ _ _ _ _ _ _ _ _ _ _ _ _ _ _ _ _ _ _ _ _ _ _
    · obtain rfl : j = r.length := by omega
      have hQ2 := HEND.out r.length hj hh.out.2 (fun c' hc' => by rw [List.getElem?_eq_none (Nat.le_refl _)] at hc'; cases hc') (by rw [← hh.out.1]; exact hacc)
      rw [← hh.out.1] at hQ2
      have HQ2 := Lib.hid hQ2
      have hks : k + r.length = s.size := by omega
      rw [hks] at HQ2 ⊢
      clear hQ2 hh
      go_wp2_with fail
      rw [HQ2.out]
      exact rn8 s s.size k acc hs (Nat.le_refl _) w _ _ _ _ _ _ _ _ _ _ _ _ _ _ _ _ _ _ _ _ _ _ _ _ _ _ _ _ _ _ _ _ _ _ _ _ _ _ _ _ _ _ _ _ _ _ _ _ _ _ _ _ _ _ _ _ _ _ _ _ _ _ _ _ _ _ _ _ _

set_option maxRecDepth 100000 in
set_option maxHeartbeats 1000000 in
theorem rnum9_any : NumC 14 Ie.number := by
  intro s w hG hs
  clear hG
  show Calls Tryz.prog 14 #[.string s] w (RnPost w (Ie.number s.data.toList))
  have hsz : s.data.toList.length = s.size := by rw [Array.length_toList]; rfl
  match hl : s.data.toList with
  | [] =>
    have h0 : s.size = 0 := by rw [← hsz, hl]; rfl
    have hst : Ie.start s.data.toList = (0, 10) := by rw [hl]; rfl
    rw [← hl]
    have key := rn7_10 s 0 hs (by omega) hst w
    clear hl hsz
    have KEY := Lib.hid key
    clear key hst
    go_enter Tryz.func14, Tryz.ntmps14
    show Code.wp Tryz.prog (secs 0 rnBody) _ _ _
    refine wp_sec 0 rnBody rfl ?_
    conv => arg 2; whnf
    go_wp2_with fail
    refine wp_sec 1 rnBody rfl ?_
    conv => arg 2; whnf
    go_wp2_with fail
    refine wp_sec 2 rnBody rfl ?_
    conv => arg 2; whnf
    go_wp2_with fail
    refine wp_sec 3 rnBody rfl ?_
    conv => arg 2; whnf
    go_wp2_with fail
    refine wp_sec 4 rnBody rfl ?_
    conv => arg 2; whnf
    go_wp2_with fail
    refine wp_sec 5 rnBody rfl ?_
    conv => arg 2; whnf
    go_wp2_with fail
    refine wp_sec 6 rnBody rfl ?_
    conv => arg 2; whnf
    go_wp2_with fail
    exact KEY.out _ _ _ _ _ _ _ _ _ _ _ _ _ _ _ _ _ _ _ _ _ _ _ _ _ _ _ _ _ _ _ _ _ _ _ _ _ _ _ _ _ _ _ _ _ _ _ _ _ _ _ _ _ _ _ _ _ _ _ _ _ _ _ _ _ _ _
  | [c] =>
    have h1 : s.size = 1 := by rw [← hsz, hl]; rfl
    have hi0 : 0 < s.size := by omega
    have g0 : ((s[0]'hi0).toNat : Int) = c.toNat := byte7 (by rw [hl]; rfl) _
    obtain ⟨C, hC⟩ : ∃ C : Int, C = c.toNat := ⟨_, rfl⟩
    rw [← hC] at g0
    by_cases hc : C = 48
    · have hst : Ie.start s.data.toList = (0, 8) := by rw [hl]; exact if_pos ((u8_iff (k := 48) (by decide)).2 (by rw [← hC]; exact hc))
      rw [← hl]
      have key := rn7_8 s 0 hs (by omega) hst w
      clear hl hsz hC
      have KEY := Lib.hid key
      clear key hst
      go_enter Tryz.func14, Tryz.ntmps14
      show Code.wp Tryz.prog (secs 0 rnBody) _ _ _
      refine wp_sec 0 rnBody rfl ?_
      conv => arg 2; whnf
      go_wp2_with fail
      refine wp_sec 1 rnBody rfl ?_
      conv => arg 2; whnf
      go_wp2_with fail
      refine wp_sec 2 rnBody rfl ?_
      conv => arg 2; whnf
      go_wp2_with fail
      refine wp_sec 3 rnBody rfl ?_
      conv => arg 2; whnf
      go_wp2_with fail
      refine wp_sec 4 rnBody rfl ?_
      conv => arg 2; whnf
      go_wp2_with fail
      refine wp_sec 5 rnBody rfl ?_
      conv => arg 2; whnf
      go_wp2_with fail
      refine wp_sec 6 rnBody rfl ?_
      conv => arg 2; whnf
      go_wp2_with fail
      exact KEY.out _ _ _ _ _ _ _ _ _ _ _ _ _ _ _ _ _ _ _ _ _ _ _ _ _ _ _ _ _ _ _ _ _ _ _ _ _ _ _ _ _ _ _ _ _ _ _ _ _ _ _ _ _ _ _ _ _ _ _ _ _ _ _ _ _ _ _
    · have hst : Ie.start s.data.toList = (0, 10) := by rw [hl]; exact if_neg fun h => hc (by rw [hC]; exact (u8_iff (k := 48) (by decide)).1 h)
      rw [← hl]
      have key := rn7_10 s 0 hs (by omega) hst w
      clear hl hsz hC
      have KEY := Lib.hid key
      clear key hst
      go_enter Tryz.func14, Tryz.ntmps14
      show Code.wp Tryz.prog (secs 0 rnBody) _ _ _
      refine wp_sec 0 rnBody rfl ?_
      conv => arg 2; whnf
      go_wp2_with fail
      refine wp_sec 1 rnBody rfl ?_
      conv => arg 2; whnf
      go_wp2_with fail
      refine wp_sec 2 rnBody rfl ?_
      conv => arg 2; whnf
      go_wp2_with fail
      refine wp_sec 3 rnBody rfl ?_
      conv => arg 2; whnf
      go_wp2_with fail
      refine wp_sec 4 rnBody rfl ?_
      conv => arg 2; whnf
      go_wp2_with fail
      refine wp_sec 5 rnBody rfl ?_
      conv => arg 2; whnf
      go_wp2_with fail
      refine wp_sec 6 rnBody rfl ?_
      conv => arg 2; whnf
      go_wp2_with fail
      exact KEY.out _ _ _ _ _ _ _ _ _ _ _ _ _ _ _ _ _ _ _ _ _ _ _ _ _ _ _ _ _ _ _ _ _ _ _ _ _ _ _ _ _ _ _ _ _ _ _ _ _ _ _ _ _ _ _ _ _ _ _ _ _ _ _ _ _ _ _
  | c :: d :: t =>
    have h2 : 2 ≤ s.size := by rw [← hsz, hl]; simp
    have hi0 : 0 < s.size := by omega
    have g0 : ((s[0]'hi0).toNat : Int) = c.toNat := byte7 (by rw [hl]; rfl) _
    have hi1 : 1 < s.size := by omega
    have g1 : ((s[1]'hi1).toNat : Int) = d.toNat := byte7 (by rw [hl]; rfl) _
    obtain ⟨C, hC⟩ : ∃ C : Int, C = c.toNat := ⟨_, rfl⟩
    obtain ⟨D, hD⟩ : ∃ D : Int, D = d.toNat := ⟨_, rfl⟩
    rw [← hC] at g0
    rw [← hD] at g1
    by_cases hc : C = 48
    · have hc' : c = 48 := (u8_iff (k := 48) (by decide)).2 (by rw [← hC]; exact hc)
      by_cases hd : D = 120 ∨ D = 88
      · have hd' : d = 120 ∨ d = 88 := by
          rcases hd with h | h
          · exact .inl ((u8_iff (k := 120) (by decide)).2 (by rw [← hD]; exact h))
          · exact .inr ((u8_iff (k := 88) (by decide)).2 (by rw [← hD]; exact h))
        have hst : Ie.start s.data.toList = (2, 16) := by rw [hl]; exact (if_pos hc').trans (if_pos hd')
        rw [← hl]
        have key := rn7_16 s 2 hs h2 hst w
        clear hl hsz hC hD hc' hd'
        rcases hd with hd | hd
        all_goals
          have KEY := Lib.hid key
          clear key hst
          go_enter Tryz.func14, Tryz.ntmps14
          show Code.wp Tryz.prog (secs 0 rnBody) _ _ _
          refine wp_sec 0 rnBody rfl ?_
          conv => arg 2; whnf
          go_wp2_with fail
          refine wp_sec 1 rnBody rfl ?_
          conv => arg 2; whnf
          go_wp2_with fail
          refine wp_sec 2 rnBody rfl ?_
          conv => arg 2; whnf
          go_wp2_with fail
          refine wp_sec 3 rnBody rfl ?_
          conv => arg 2; whnf
          go_wp2_with fail
          refine wp_sec 4 rnBody rfl ?_
          conv => arg 2; whnf
          go_wp2_with fail
          refine wp_sec 5 rnBody rfl ?_
          conv => arg 2; whnf
          go_wp2_with fail
          refine wp_sec 6 rnBody rfl ?_
          conv => arg 2; whnf
          go_wp2_with fail
          exact KEY.out _ _ _ _ _ _ _ _ _ _ _ _ _ _ _ _ _ _ _ _ _ _ _ _ _ _ _ _ _ _ _ _ _ _ _ _ _ _ _ _ _ _ _ _ _ _ _ _ _ _ _ _ _ _ _ _ _ _ _ _ _ _ _ _ _ _ _
      · have hd' : ¬ (d = 120 ∨ d = 88) := fun h => hd (by
          rcases h with h | h
          · exact .inl (by rw [hD]; exact (u8_iff (k := 120) (by decide)).1 h)
          · exact .inr (by rw [hD]; exact (u8_iff (k := 88) (by decide)).1 h))
        have hst : Ie.start s.data.toList = (0, 8) := by rw [hl]; exact (if_pos hc').trans (if_neg hd')
        rw [← hl]
        have key := rn7_8 s 0 hs (by omega) hst w
        have d1 : (D == 120) = false := beq_eq_false_iff_ne.2 fun h => hd (.inl h)
        have d2 : (D == 88) = false := beq_eq_false_iff_ne.2 fun h => hd (.inr h)
        clear hl hsz hC hD hc' hd' hd
        have KEY := Lib.hid key
        clear key hst
        go_enter Tryz.func14, Tryz.ntmps14
        show Code.wp Tryz.prog (secs 0 rnBody) _ _ _
        refine wp_sec 0 rnBody rfl ?_
        conv => arg 2; whnf
        go_wp2_with fail
        refine wp_sec 1 rnBody rfl ?_
        conv => arg 2; whnf
        go_wp2_with fail
        refine wp_sec 2 rnBody rfl ?_
        conv => arg 2; whnf
        go_wp2_with fail
        refine wp_sec 3 rnBody rfl ?_
        conv => arg 2; whnf
        go_wp2_with fail
        refine wp_sec 4 rnBody rfl ?_
        conv => arg 2; whnf
        go_wp2_with fail
        refine wp_sec 5 rnBody rfl ?_
        conv => arg 2; whnf
        go_wp2_with fail
        refine wp_sec 6 rnBody rfl ?_
        conv => arg 2; whnf
        go_wp2_with fail
        exact KEY.out _ _ _ _ _ _ _ _ _ _ _ _ _ _ _ _ _ _ _ _ _ _ _ _ _ _ _ _ _ _ _ _ _ _ _ _ _ _ _ _ _ _ _ _ _ _ _ _ _ _ _ _ _ _ _ _ _ _ _ _ _ _ _ _ _ _ _
    · have hst : Ie.start s.data.toList = (0, 10) := by rw [hl]; exact if_neg fun h => hc (by rw [hC]; exact (u8_iff (k := 48) (by decide)).1 h)
      rw [← hl]
      have key := rn7_10 s 0 hs (by omega) hst w
      clear hl hsz hC hD
      have KEY := Lib.hid key
      clear key hst
      go_enter Tryz.func14, Tryz.ntmps14
      show Code.wp Tryz.prog (secs 0 rnBody) _ _ _
      refine wp_sec 0 rnBody rfl ?_
      conv => arg 2; whnf
      go_wp2_with fail
      refine wp_sec 1 rnBody rfl ?_
      conv => arg 2; whnf
      go_wp2_with fail
      refine wp_sec 2 rnBody rfl ?_
      conv => arg 2; whnf
      go_wp2_with fail
      refine wp_sec 3 rnBody rfl ?_
      conv => arg 2; whnf
      go_wp2_with fail
      refine wp_sec 4 rnBody rfl ?_
      conv => arg 2; whnf
      go_wp2_with fail
      refine wp_sec 5 rnBody rfl ?_
      conv => arg 2; whnf
      go_wp2_with fail
      refine wp_sec 6 rnBody rfl ?_
      conv => arg 2; whnf
      go_wp2_with fail
      exact KEY.out _ _ _ _ _ _ _ _ _ _ _ _ _ _ _ _ _ _ _ _ _ _ _ _ _ _ _ _ _ _ _ _ _ _ _ _ _ _ _ _ _ _ _ _ _ _ _ _ _ _ _ _ _ _ _ _ _ _ _ _ _ _ _ _ _ _ _
end Go.Proofs.YtognifnalfjdgaaGreatDoor

/- What is proved: what texts are as numbers and as quotes is as the document says (IfexprAtoms). -/
namespace Go.Proofs.YtognifnalfjdgaaGreatDoor
open Go.RowKit Go.Shelf

set_option maxRecDepth 100000 in
set_option maxHeartbeats 4000000 in
theorem atoms_any (s : ByteArray) (w : World) (hG : Gv w) : Calls Tryz.prog 4 #[.string s] w (TruePost w) := by
  have K1 := Lib.hid (awake9_any w hG)
  have HG := Lib.hid hG
  clear hG
  by_cases hs : s.size ≤ 500
  · have z1 : ¬ (500 < (s.size : Int)) := by omega
    have HS := Lib.hid (show s.size ≤ 1000000 by omega)
    obtain ⟨p, hp⟩ : ∃ p, p = Ie.number s.data.toList := ⟨_, rfl⟩
    obtain ⟨q, hq⟩ : ∃ q, q = Ie.quote s.data.toList := ⟨_, rfl⟩
    obtain ⟨a, ha⟩ : ∃ a, a = Ie.nv p := ⟨_, rfl⟩
    obtain ⟨b, hb⟩ : ∃ a, a = Ie.ne p := ⟨_, rfl⟩
    obtain ⟨c, hc⟩ : ∃ a, a = Ie.nv q := ⟨_, rfl⟩
    obtain ⟨d, hd⟩ : ∃ a, a = Ie.ne q := ⟨_, rfl⟩
    have N1 : Hid (∀ W, Gv W → Calls Tryz.prog 13 #[.string s] W fun e w' => e = .returned (.tuple #[.int .i64 a, .int .i64 b]) ∧ Below W.heap.size W w') := Lib.hid fun W h => by rw [ha, hb, hp]; exact inumber_any s W h HS.out
    have N2 : Hid (∀ W, Gv W → Calls Tryz.prog 14 #[.string s] W fun e w' => e = .returned (.tuple #[.int .i64 a, .int .i64 b]) ∧ Below W.heap.size W w') := Lib.hid fun W h => by rw [ha, hb, hp]; exact rnum9_any s W h HS.out
    have N3 : Hid (∀ W, Gv W → Calls Tryz.prog 15 #[.string s] W fun e w' => e = .returned (.tuple #[.int .i64 c, .int .i64 d]) ∧ Below W.heap.size W w') := Lib.hid fun W h => by rw [hc, hd, hq]; exact iquote_any s W h HS.out
    have N4 : Hid (∀ W, Gv W → Calls Tryz.prog 16 #[.string s] W fun e w' => e = .returned (.tuple #[.int .i64 c, .int .i64 d]) ∧ Below W.heap.size W w') := Lib.hid fun W h => by rw [hc, hd, hq]; exact rquote_any s W h HS.out
    clear hp hq ha hb hc hd hs
    go_enter Tryz.func4, Tryz.ntmps4
    go_wp2_with fail
    refine K1.out.mono ?_
    rintro e w1 ⟨rfl, hB1⟩
    have HB1 := Lib.hid hB1
    clear hB1
    go_wp2_with fail
    refine (N1.out _ (HG.out.later HB1.out)).mono ?_
    rintro e w2 ⟨rfl, hB2⟩
    have HB2 := Lib.hid (Below.then HB1.out hB2)
    clear hB2
    go_wp2_with fail
    refine (N2.out _ (HG.out.later HB2.out)).mono ?_
    rintro e w3 ⟨rfl, hB3⟩
    have HB3 := Lib.hid (Below.then HB2.out hB3)
    clear hB3
    go_wp2_with fail
    refine (N3.out _ (HG.out.later HB3.out)).mono ?_
    rintro e w4 ⟨rfl, hB4⟩
    have HB4 := Lib.hid (Below.then HB3.out hB4)
    clear hB4
    go_wp2_with fail
    refine (N4.out _ (HG.out.later HB4.out)).mono ?_
    rintro e w5 ⟨rfl, hB5⟩
    have HB5 := Lib.hid (Below.then HB4.out hB5)
    clear hB5
    go_wp2_with fail
    go_ret
    exact ⟨rfl, HB5.out⟩
  · have z1 : 500 < (s.size : Int) := by omega
    go_enter Tryz.func4, Tryz.ntmps4
    go_wp2_with fail
    refine K1.out.mono ?_
    rintro e w1 ⟨rfl, hB1⟩
    have HB1 := Lib.hid hB1
    clear hB1
    go_wp2_with fail
    go_ret
    exact ⟨rfl, HB1.out⟩
end Go.Proofs.YtognifnalfjdgaaGreatDoor

/- What is proved: names in a map; what is asked behind a 'defined'. -/
namespace Go.Proofs.YtognifnalfjdgaaGreatDoor
open Go.RowKit Go.Shelf Go.WideMaps

theorem keyStr : Go.Maps.Keyed Tryz.prog 9 := Go.Maps.string_keyed Tryz.underlying9
theorem zeroUnit (w : World) : (zeroValue 73).run Tryz.prog w = .ok (.agg #[]) w := by kernel_rfl
theorem str_inj {a b : ByteArray} (h : (Lit.string a.data.toList : Lit) = .string b.data.toList) : a = b := by
  injection h with h
  cases a; cases b
  simp only at h
  congr
  exact Array.ext' h
theorem keyLit (x : ByteArray) (_ : x.size ≤ maxLen) : WideAt.IsKeyLit (.string x.data.toList) := by
  trivial
/-- A slice of texts. -/
def Sts (W : World) (v : Value) (ps : List ByteArray) : Prop :=
  ∃ ad cap, v = .slice ad ps.length cap ∧ ps.length ≤ cap ∧ cap ≤ maxLen ∧ ∀ i s, ps[i]? = some s → ∃ g o, ad = some ⟨g, o, none⟩ ∧ W.cell? ⟨g, o + i, none⟩ = some (.string s)
theorem Sts.below {W W' : World} {v : Value} {ps : List ByteArray} (h : Sts W v ps) (hb : Below W.heap.size W W') : Sts W' v ps := by
  obtain ⟨ad, cap, rfl, h1, h2, h3⟩ := h
  refine ⟨ad, cap, rfl, h1, h2, fun i s hs => ?_⟩
  obtain ⟨g, o, e, c⟩ := h3 i s hs
  exact ⟨g, o, e, (hb.cell (p := ⟨g, o + i, none⟩) (lt_of_cell c)).trans c⟩
def Ie.has (ns : List ByteArray) (x : ByteArray) : Bool := ns.any fun y => decide (y = x)
/-- The names that are known. -/
def Nms (W : World) (mb : Nat) (ns : List ByteArray) : Prop :=
  ∃ n D, W.ownsMap (H := Unit) Tryz.prog 9 unitElem mb n D ∧ n ≤ ns.length ∧ ∀ x : ByteArray, x.size ≤ maxLen → Go.Maps.has D (.string x.data.toList) = Ie.has ns x
theorem nms_made (w : World) : Nms (w.alloc (.map #[] 0)) w.heap.size [] := ⟨0, _, World.ownsMap_made w _ _ _, by simp, fun x _ => rfl⟩
theorem Nms.keep {W W' : World} {mb : Nat} {ns : List ByteArray} (h : Nms W mb ns) (hb : Below W.heap.size W W') : Nms W' mb ns := by
  obtain ⟨n, D, h1, h2⟩ := h
  exact ⟨n, D, h1.kept (row := none) ⟨hb.os, hb.tape, hb.output, hb.size, fun k hk _ => hb.block k hk⟩ (by simp), h2⟩
theorem Nms.grown {W W' : World} {mb : Nat} {ns : List ByteArray} {row : Option Nat} (h : Nms W mb ns) (hg : W.grownBy W' row) (hr : row ≠ some mb) : Nms W' mb ns := by
  obtain ⟨n, D, h1, h2⟩ := h
  exact ⟨n, D, h1.kept hg (fun e => hr e.symm), h2⟩
theorem Nms.set {W : World} {mb : Nat} {ns : List ByteArray} (h : Nms W mb ns) {a : Addr} (ha : mb ≠ a.block) (u : Value) : Nms (W.setCell a u) mb ns := by
  obtain ⟨n, D, h1, h2⟩ := h
  exact ⟨n, D, h1.setCell ha u, h2⟩
theorem Nms.look {W : World} {mb : Nat} {ns : List ByteArray} (h : Nms W mb ns) (x : ByteArray) (hx : x.size ≤ maxLen) :
    (Instr.lookup 72 (.map (some mb)) (.string x) true).run Tryz.prog W = .ok (.tuple #[.agg #[], .bool (Ie.has ns x)]) W := by
  obtain ⟨n, D, h1, _, h3⟩ := h
  obtain ⟨v, q, hr, hv⟩ := h1.look_ok keyStr Tryz.underlying72 (zeroUnit W) (unitElem_mk (H := Unit)) (keyOf_string_mk Tryz.underlying9 hx)
  obtain ⟨rfl, _⟩ := unitElem_inv hv
  rw [hr, h3 x hx]
theorem Nms.put {W : World} {mb : Nat} {ns : List ByteArray} (h : Nms W mb ns) (x : ByteArray) (hx : x.size ≤ maxLen) (hl : ns.length < maxLen) :
    ∃ W', (Instr.mapUpdate 72 (.map (some mb)) (.string x) (.agg #[])).run Tryz.prog W = .ok () W' ∧ Nms W' mb (ns ++ [x]) ∧ W.grownBy W' (some mb) := by
  obtain ⟨n, D, h1, h2, h3⟩ := h
  obtain ⟨W', r1, r2, r3⟩ := h1.update keyStr Tryz.underlying72 (by omega) (keyOf_string_mk Tryz.underlying9 hx) (unitElem_mk (H := Unit))
  refine ⟨W', r1, ⟨n + 1, _, r2, by simp; omega, fun y hy => ?_⟩, r3⟩
  by_cases e : y = x
  · subst e
    rw [Go.Maps.has_put_same h1.isMap (keyLit y hx)]
    simp [Ie.has]
  · rw [Go.Maps.has_put_other (fun e' => e (str_inj e')), h3 y hy]
    have : ¬ x = y := fun e' => e e'.symm
    simp [Ie.has, this]

namespace Ie
def DEF : ByteArray := ⟨#[100, 101, 102, 105, 110, 101, 100]⟩
def B0 : ByteArray := ⟨#[48]⟩
def B1 : ByteArray := ⟨#[49]⟩
/-- The name that is asked, and how many tokens it takes. -/
def asked : List K → Option (ByteArray × Nat)
  | [] => none
  | a :: r =>
    if a.kind = 1 then some (a.text, 1)
    else match r with
      | b :: c :: _ => if isS a sLp = true ∧ b.kind = 1 ∧ isS c sRp = true then some (b.text, 3) else none
      | _ => none
def isDef (t : K) : Bool := decide (t.kind = 1) && decide (t.text = DEF)
def told (ns : List ByteArray) (t : K) (x : ByteArray) : K := ⟨2, if has ns x then B1 else B0, t.file, t.fr, t.en, t.bl⟩
def defd (ns : List ByteArray) : Nat → List K → Option (List K)
  | 0, _ => some []
  | _ + 1, [] => some []
  | f + 1, t :: r =>
    if isDef t then
      match asked r with
      | none => none
      | some (x, n) => (defd ns f (r.drop n)).map (told ns t x :: ·)
    else (defd ns f r).map (t :: ·)
theorem asked_some {l : List K} {x : ByteArray} {n : Nat} (h : asked l = some (x, n)) : (0 < n ∧ n ≤ l.length ∧ n ≤ 3) ∧ ∃ t ∈ l, t.text = x := by
  match l with
  | [] => cases h
  | a :: r =>
    by_cases hk : a.kind = 1
    · have e : asked (a :: r) = some (a.text, 1) := if_pos hk
      rw [e] at h
      simp only [Option.some.injEq, Prod.mk.injEq] at h
      obtain ⟨h1, rfl⟩ := h
      exact ⟨⟨by omega, by simp, by omega⟩, a, List.mem_cons_self, h1⟩
    · match r with
      | [] =>
        have e : asked [a] = none := if_neg hk
        rw [e] at h; cases h
      | [b] =>
        have e : asked [a, b] = none := if_neg hk
        rw [e] at h; cases h
      | b :: c :: r =>
        have e : asked (a :: b :: c :: r) = if isS a sLp = true ∧ b.kind = 1 ∧ isS c sRp = true then some (b.text, 3) else none := if_neg hk
        rw [e] at h
        by_cases hq : isS a sLp = true ∧ b.kind = 1 ∧ isS c sRp = true
        · rw [if_pos hq] at h
          simp only [Option.some.injEq, Prod.mk.injEq] at h
          obtain ⟨h1, rfl⟩ := h
          exact ⟨⟨by omega, by simp, by omega⟩, b, by simp, h1⟩
        · rw [if_neg hq] at h; cases h
theorem asked_len {l : List K} {x : ByteArray} {n : Nat} (h : asked l = some (x, n)) : 0 < n ∧ n ≤ l.length ∧ n ≤ 3 := (asked_some h).1
theorem asked_mem {l : List K} {x : ByteArray} {n : Nat} (h : asked l = some (x, n)) : ∃ t ∈ l, t.text = x := (asked_some h).2
end Ie

def askV : Option (ByteArray × Nat) → Value
  | none => .tuple #[.string ⟨#[]⟩, .int .i64 0]
  | some (x, n) => .tuple #[.string x, .int .i64 n]
set_option maxRecDepth 100000 in
set_option maxHeartbeats 4000000 in
theorem asked_any (v : Value) (l : List K) (w : World) (hv : Ks w v l) : Calls Tryz.prog 41 #[v] w fun e w' => e = .returned (askV (Ie.asked l)) ∧ Below w.heap.size w w' := by
  cases l with
  | nil =>
    obtain ⟨ad, cap, rfl, -⟩ := hv
    show Calls Tryz.prog 41 #[.slice ad 0 cap] w fun e w' => e = .returned (.tuple #[.string ⟨#[]⟩, .int .i64 0]) ∧ Below w.heap.size w w'
    go_enter Tryz.func41, Tryz.ntmps41
    go_wp2_with fail
    go_ret2
    exact ⟨rfl, Below.refl _ _⟩
  | cons a r =>
    obtain ⟨ad, cap, rfl, -⟩ := id hv
    obtain ⟨g, o, rfl, -, hc1, hc2, hg, hc⟩ := hv.cells (by simp)
    unfold maxLen at hc2
    obtain ⟨a0, a1, a2, a3, a4, a5⟩ := hc 0 a rfl
    simp only [Nat.zero_mul, Nat.add_zero] at a0 a1 a2 a3 a4 a5
    by_cases hk : a.kind = 1
    · have e1 : Ie.asked (a :: r) = some (a.text, 1) := if_pos hk
      rw [e1]
      obtain ⟨n, hn⟩ : ∃ n, n = r.length := ⟨_, rfl⟩
      simp only [List.length_cons] at hc1 ⊢
      rw [← hn] at hc1 ⊢
      obtain ⟨kd, tx, f, fr, en, bl⟩ := a
      dsimp only at a0 a1 a2 a3 a4 a5 hk ⊢
      have z1 : (0 : Int) < (n : Int) + 1 := by omega
      clear hv hc hn e1
      go_enter Tryz.func41, Tryz.ntmps41
      go_wp2_with fail
      go_ret2
      exact ⟨rfl, Below.refl _ _⟩
    · match r, hv, hc, hc1 with
      | [], _, _, hc1 =>
        have e1 : Ie.asked [a] = none := if_neg hk
        rw [e1]
        obtain ⟨kd, tx, f, fr, en, bl⟩ := a
        dsimp only at a0 a1 a2 a3 a4 a5 hk ⊢
        clear hc hv e1
        go_enter Tryz.func41, Tryz.ntmps41
        go_wp2_with fail
        go_ret2
        exact ⟨rfl, Below.refl _ _⟩
      | [b], _, _, hc1 =>
        have e1 : Ie.asked [a, b] = none := if_neg hk
        rw [e1]
        obtain ⟨kd, tx, f, fr, en, bl⟩ := a
        dsimp only at a0 a1 a2 a3 a4 a5 hk ⊢
        clear hc hv e1
        go_enter Tryz.func41, Tryz.ntmps41
        go_wp2_with fail
        go_ret2
        exact ⟨rfl, Below.refl _ _⟩
      | b :: c :: r, hv, hc, hc1 =>
        obtain ⟨b0, b1, b2, b3, b4, b5⟩ := hc 1 b rfl
        obtain ⟨c0, c1, c2, c3, c4, c5⟩ := hc 2 c rfl
        have e1 : Ie.asked (a :: b :: c :: r) = if Ie.isS a Ie.sLp = true ∧ b.kind = 1 ∧ Ie.isS c Ie.sRp = true then some (b.text, 3) else none := if_neg hk
        rw [e1]
        have K1 := Lib.hid (fun W => isign_any a Ie.sLp W)
        have K2 := Lib.hid (fun W => isign_any c Ie.sRp W)
        obtain ⟨p, hp⟩ : ∃ p, p = Ie.isS a Ie.sLp := ⟨_, rfl⟩
        obtain ⟨q, hq⟩ : ∃ q, q = Ie.isS c Ie.sRp := ⟨_, rfl⟩
        rw [← hp] at K1 ⊢
        rw [← hq] at K2 ⊢
        obtain ⟨n, hn⟩ : ∃ n, n = r.length := ⟨_, rfl⟩
        simp only [List.length_cons] at hc1 ⊢
        rw [← hn] at hc1 ⊢
        obtain ⟨kd, tx, f, fr, en, bl⟩ := a
        obtain ⟨bkd, btx, bf, bfr, ben, bbl⟩ := b
        obtain ⟨ckd, ctx, cf, cfr, cen, cbl⟩ := c
        dsimp only [kAgg] at a0 a1 a2 a3 a4 a5 b0 b1 c0 c1 c2 c3 c4 c5 hk K1 K2 ⊢
        simp only [Nat.one_mul] at b0 b1 b2 b3 b4 b5
        have z1 : (0 : Int) < (n : Int) + 1 + 1 + 1 := by omega
        have z2 : (2 : Int) < (n : Int) + 1 + 1 + 1 := by omega
        obtain ⟨z, hz⟩ : ∃ z, z = (if p = true ∧ bkd = 1 ∧ q = true then some (btx, 3) else none) := ⟨_, rfl⟩
        rw [← hz]
        have z0 : p = false → z = none := fun h => by rw [hz, if_neg (fun h' => by rw [h] at h'; exact absurd h'.1 (by decide))]
        have z3 : q = false → z = none := fun h => by rw [hz, if_neg (fun h' => by rw [h] at h'; exact absurd h'.2.2 (by decide))]
        have z4 : ¬ bkd = 1 → z = none := fun h => by rw [hz, if_neg (fun h' => h h'.2.1)]
        have z5 : p = true → bkd = 1 → q = true → z = some (btx, 3) := fun h1 h2 h3 => by rw [hz, if_pos ⟨h1, h2, h3⟩]
        clear hv hc hn e1 hp hq b2 b3 b4 b5 hz
        have Z0 := Lib.hid z0
        have Z3 := Lib.hid z3
        have Z4 := Lib.hid z4
        have Z5 := Lib.hid z5
        clear z0 z3 z4 z5
        cases p with
        | false =>
          rw [Z0.out rfl]
          go_enter Tryz.func41, Tryz.ntmps41
          go_wp2_with fail
          refine (K1.out _).mono ?_
          rintro e w2 ⟨rfl, hB2⟩
          go_wp2_with fail
          go_ret2
          exact ⟨rfl, hB2⟩
        | true =>
          by_cases hb : bkd = 1
          · have HBK := Lib.hid hb
            go_enter Tryz.func41, Tryz.ntmps41
            go_wp2_with fail
            refine (K1.out _).mono ?_
            rintro e w2 ⟨rfl, hB2⟩
            replace b0 := below_cof hB2 b0
            replace b1 := below_cof hB2 b1
            replace c0 := below_cof hB2 c0
            replace c1 := below_cof hB2 c1
            replace c2 := below_cof hB2 c2
            replace c3 := below_cof hB2 c3
            replace c4 := below_cof hB2 c4
            replace c5 := below_cof hB2 c5
            have HB2 := Lib.hid hB2
            clear hB2 a0 a1 a2 a3 a4 a5
            go_wp2_with fail
            refine (K2.out _).mono ?_
            rintro e w3 ⟨rfl, hB3⟩
            replace b1 := below_cof hB3 b1
            have HB3 := Lib.hid hB3
            clear hB3 c0 c1 c2 c3 c4 c5 b0
            cases q with
            | false =>
              go_wp2_with fail
              go_ret2
              refine ⟨?_, Below.then HB2.out HB3.out⟩
              rw [Z3.out (by simp)]
              rfl
            | true =>
              go_wp2_with fail
              go_ret2
              refine ⟨?_, Below.then HB2.out HB3.out⟩
              rw [Z5.out (by simp) (by first | exact HBK.out | simp) (by simp)]
              rfl
          · rw [Z4.out hb]
            go_enter Tryz.func41, Tryz.ntmps41
            go_wp2_with fail
            refine (K1.out _).mono ?_
            rintro e w2 ⟨rfl, hB2⟩
            replace b0 := below_cof hB2 b0
            go_wp2_with fail
            go_ret2
            exact ⟨rfl, hB2⟩
end Go.Proofs.YtognifnalfjdgaaGreatDoor
