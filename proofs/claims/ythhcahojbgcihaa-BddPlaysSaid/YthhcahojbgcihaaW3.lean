/- What is proved: what combine, choose and settle of package bdd come to. -/
import Derived.Test.YthhcahojbgcihaaW2
namespace Go.Proofs.Ythhcahojbgcihaa
open Go.RowKit Bd

/-- What a call comes to that makes a condition which holds where g says. -/
def Makes (w : World) (B p m : Nat) (sv : Value) (vars : Nat) (ds : List Dec) (g : (Nat → Bool) → Bool) (t : Nat) (e : Ending) (w' : World) : Prop :=
  ∃ r ds', Made vars ds ds' r g t ∧ Gives w B p m sv vars r ds' e w'

theorem Nodes.new2 (w : World) (x y : Nat) : Nodes (w.alloc (.cells #[.int .i64 (x : Int), .int .i64 (y : Int)] 35)) w.heap.size 2 (fun i => ((if i = 0 then x else y : Nat) : Int)) := by
  refine ⟨by simp, fun i hi => ?_⟩
  have e : (w.alloc (.cells #[.int .i64 (x : Int), .int .i64 (y : Int)] 35)).heap[w.heap.size]? = some (.cells #[.int .i64 (x : Int), .int .i64 (y : Int)] 35) := heap_alloc_new _ _
  rw [cell_of_row _ _ _ _ _ _ e]
  match i, hi with
  | 0, _ => rfl
  | 1, _ => rfl

theorem Nodes.new3 (w : World) (x y z : Nat) : Nodes (w.alloc (.cells #[.int .i64 (x : Int), .int .i64 (y : Int), .int .i64 (z : Int)] 35)) w.heap.size 3 (fun i => ((if i = 0 then x else if i = 1 then y else z : Nat) : Int)) := by
  refine ⟨by simp, fun i hi => ?_⟩
  have e : (w.alloc (.cells #[.int .i64 (x : Int), .int .i64 (y : Int), .int .i64 (z : Int)] 35)).heap[w.heap.size]? = some (.cells #[.int .i64 (x : Int), .int .i64 (y : Int), .int .i64 (z : Int)] 35) := heap_alloc_new _ _
  rw [cell_of_row _ _ _ _ _ _ e]
  match i, hi with
  | 0, _ => rfl
  | 1, _ => rfl
  | 2, _ => rfl

section
variable {B p m vars : Nat}

/-- The closures that are handed over. -/
def opOf (f : Nat) : Bool → Bool → Bool := if f = 40 then fun x _ => !x else if f = 41 then fun x y => x && y else if f = 42 then fun x y => x || y else fun x y => x != y

set_option maxHeartbeats 400000 in
theorem op_any (f : Nat) (hf : f = 40 ∨ f = 41 ∨ f = 42 ∨ f = 43) (x y : Bool) (w : World) : Calls Try.prog f #[.bool x, .bool y] w fun e w' => e = .returned (.bool (opOf f x y)) ∧ w = w' := by
  rcases hf with rfl | rfl | rfl | rfl
  · cases x <;> cases y <;> (go_enter Try.func40, Try.ntmps40; go_wp2; go_ret; exact ⟨rfl, rfl⟩)
  · cases x <;> cases y <;> (go_enter Try.func41, Try.ntmps41; go_wp2; go_ret; exact ⟨rfl, rfl⟩)
  · cases x <;> cases y <;> (go_enter Try.func42, Try.ntmps42; go_wp2; go_ret; exact ⟨rfl, rfl⟩)
  · cases x <;> cases y <;> (go_enter Try.func43, Try.ntmps43; go_wp2; go_ret; exact ⟨rfl, rfl⟩)


theorem Fr.to_below {w w' : World} {sv sv' : Value} (h : Fr p m sv w sv' w') : w.heap.size ≤ w'.heap.size := h.size

def bit (b : Bool) : Int := if b then 1 else 0
theorem settled_lt (b : Bool) : bit b = (((if b then 1 else 0 : Nat)) : Int) := by cases b <;> rfl
theorem settled_bit (b : Bool) (w : World) : Calls Try.prog 51 #[.bool b] w fun e w' => e = .returned (.int .i64 (bit b)) ∧ w = w' := settled_any b w

set_option maxHeartbeats 2000000 in
theorem combine_any (f : Nat) (hf : f = 40 ∨ f = 41 ∨ f = 42 ∨ f = 43) : ∀ (k : Nat) (w : World) (sv : Value) (ds : List Dec) (x y : Nat), Ar w B p m sv vars ds → x < ds.length + 2 → y < ds.length + 2 → top ds x ≤ k → top ds y ≤ k → k ≤ vars →
    ds.length + 2 ^ k ≤ 100000 →
    Calls Try.prog 49 #[.pointer (some ⟨p, 0, none⟩), .int .i64 (x : Int), .int .i64 (y : Int), .func (.func f) #[] #[]] w (Makes w B p m sv vars ds (fun a => opOf f (S ds x a) (S ds y a)) k) := by
  intro k
  induction k with
  | zero =>
    intro w sv ds x y h hx hy tx ty hk hfew
    have x2 : x < 2 := by unfold top at tx; split at tx <;> omega
    have y2 : y < 2 := by unfold top at ty; split at ty <;> omega
    have hA := h.alloc (.cells #[.int .i64 (x : Int), .int .i64 (y : Int)] 35)
    have hT := top_any hA w.heap.size 2 2 (fun i => if i = 0 then x else y) (by omega) (Nodes.new2 w x y) (fun i _ => by split <;> assumption)
    have e0 : tops ds (fun i => if i = 0 then x else y) 2 = 0 := by simp [tops]; omega
    rw [e0] at hT
    have HT := Lib.hid hT
    clear hT e0
    have HM : Hid (Made vars ds ds (if opOf f (x == 1) (y == 1) then 1 else 0) (fun a => opOf f (S ds x a) (S ds y a)) 0) := by
      refine (Made.refl h.wf (n := if opOf f (x == 1) (y == 1) then 1 else 0) (t := 0) (by split <;> omega) (by unfold top; split <;> split <;> omega)).congr fun a => ?_
      rw [S_lt2 x2, S_lt2 y2, S_lt2 (by split <;> omega)]
      cases opOf f (x == 1) (y == 1) <;> rfl
    have hxb : (((x : Int) == 1) = (x == 1)) := by rw [Bool.eq_iff_iff]; simp; omega
    have hyb : (((y : Int) == 1) = (y == 1)) := by rw [Bool.eq_iff_iff]; simp; omega
    have HXB := Lib.hid hxb
    have HYB := Lib.hid hyb
    clear hxb hyb hfew tx ty
    rcases hf with rfl | rfl | rfl | rfl
    all_goals
      go_enter Try.func49, Try.ntmps49
      go_wp2_with fail
      refine (HT.out).mono ?_
      rintro e w1 ⟨rfl, hb1⟩
      go_wp2_with fail
      refine (op_any _ (by simp) _ _ _).mono ?_
      rintro e w2 ⟨rfl, rfl⟩
      go_wp2_with fail
      refine (settled_bit _ _).mono ?_
      rintro e w2 ⟨rfl, rfl⟩
      go_wp2_with fail
      go_ret
      refine ⟨_, _, HM.out, Gives.of_below h (ret_int ?_) (((Below.refl _ _).alloc (Nat.le_refl _) _).trans (hb1.mono (by simp)))⟩
      rw [← settled_lt, ← HXB.out, ← HYB.out]
  | succ t ih =>
    intro w sv ds x y h hx hy tx ty hk hfew
    by_cases hlow : top ds x ≤ t ∧ top ds y ≤ t
    · exact (ih w sv ds x y h hx hy hlow.1 hlow.2 (by omega) (by rw [Nat.pow_succ] at hfew; omega)).mono fun e w' ⟨r, ds', hM, hG⟩ => ⟨r, ds', hM.mono (by omega), hG⟩
    have hv8 := h.v8
    have hA := h.alloc (.cells #[.int .i64 (x : Int), .int .i64 (y : Int)] 35)
    have hT := top_any hA w.heap.size 2 2 (fun i => if i = 0 then x else y) (by omega) (Nodes.new2 w x y) (fun i _ => by split <;> assumption)
    have e0 : (tops ds (fun i => if i = 0 then x else y) 2 : Int) - 1 = (t : Int) := by simp [tops]; omega
    rw [e0] at hT
    have HT := Lib.hid hT
    obtain ⟨x1, x2, x3, x4, x5⟩ := split_ok h.wf hx tx
    obtain ⟨y1, y2, y3, y4, y5⟩ := split_ok h.wf hy ty
    have X5 := Lib.hid x5
    have Y5 := Lib.hid y5
    have IH := Lib.hid ih
    have HF := Lib.hid hfew
    clear hT e0 x5 y5 ih hfew hlow
    go_enter Try.func49, Try.ntmps49
    go_wp2_with fail
    refine (HT.out).mono ?_
    rintro e w1 ⟨rfl, hb1⟩
    have hA1 := hA.below hb1
    go_wp2_with fail
    refine (split_any hA1 x t hx (by omega)).mono ?_
    rintro e w2 ⟨rfl, hb2⟩
    have hA2 := hA1.below hb2
    go_wp2_with fail
    refine (split_any hA2 y t hy (by omega)).mono ?_
    rintro e w3 ⟨rfl, hb3⟩
    have hA3 := hA2.below hb3
    have hb03 : Below w.heap.size w w3 := by
      have b0 : Below w.heap.size w (w.alloc (.cells #[.int .i64 (x : Int), .int .i64 (y : Int)] 35)) := (Below.refl _ _).alloc (Nat.le_refl _) _
      have b1 := b0.trans (hb1.mono b0.size)
      have b2 := b1.trans (hb2.mono b1.size)
      exact b2.trans (hb3.mono b2.size)
    have F3 := Fr.of_below hb03 p m sv
    have hk' : t ≤ vars := by omega
    have hpow : 2 ^ (t + 1) = 2 ^ t + 2 ^ t := by rw [Nat.pow_succ]; omega
    have hone : 1 ≤ 2 ^ t := Nat.one_le_two_pow
    have hfew1 : ds.length + 2 ^ t ≤ 100000 := by have := HF.out; omega
    go_wp2_with fail
    refine (IH.out w3 sv ds _ _ hA3 x1 y1 x3 y3 hk' hfew1).mono ?_
    rintro e w4 ⟨r1, ds1, M1, rfl, sv1, hA4, F4⟩
    obtain ⟨u1, u2, u3⟩ := M1.old h.wf x2
    obtain ⟨v1, v2, v3⟩ := M1.old h.wf y2
    have hfew2 : ds1.length + 2 ^ t ≤ 100000 := by have := HF.out; have := M1.few; omega
    have U := Lib.hid u3
    have V := Lib.hid v3
    have u4 : top ds1 (splitOf ds x t).2 ≤ t := by omega
    have v4 : top ds1 (splitOf ds y t).2 ≤ t := by omega
    have HP := Lib.hid hpow
    clear u2 v2 u3 v3 hpow
    go_wp2_with fail
    refine (IH.out w4 sv1 ds1 _ _ hA4 u1 v1 u4 v4 hk' hfew2).mono ?_
    rintro e w5 ⟨r2, ds2, M2, rfl, sv2, hA5, F5⟩
    have hfew3 : ds2.length < 100000 := by have := HF.out; have := M1.few; have := M2.few; have := HP.out; omega
    obtain ⟨J, j1, j2⟩ := made_join M1 M2 (show t < vars by omega)
    have hD := decide_any hA5 (t, r1, r2) (show t < vars by omega) j1 M2.lt j2 M2.top hfew3
    unfold keyOf at hD
    have HD := Lib.hid hD
    clear hD
    go_wp2_with fail
    refine (HD.out).mono ?_
    rintro e w6 ⟨rfl, sv3, hA6, F6⟩
    go_wp2_with fail
    go_ret
    refine ⟨_, _, J.congr fun a => ?_, rfl, sv3, hA6, ((F3.trans F4).trans F5).trans F6⟩
    rw [X5.out a, Y5.out a, U.out a, V.out a]
    split <;> rfl
end
end Go.Proofs.Ythhcahojbgcihaa
