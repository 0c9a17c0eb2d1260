/- What is proved: what Sat of package bdd comes to, and what is told of numbers that are no conditions. -/
import Derived.Test.YthhcahojbgcihaaW6
namespace Go.Proofs.Ythhcahojbgcihaa
open Go.RowKit Bd

def satN (ds : List Dec) (n : Nat) : Nat := sat ds n n

section
variable {w : World} {B p m vars : Nat} {sv : Value} {ds : List Dec}

theorem sat_N (h : WF vars ds) (n : Nat) (hn : n < ds.length + 2) : ∀ k, n ≤ k → sat ds k n = satN ds n := by
  intro k
  induction k with
  | zero => intro hk; have : n = 0 := by omega
            subst this; rfl
  | succ k ih =>
    intro hk
    by_cases e : n = k + 1
    · subst e; rfl
    · rw [sat_fuel h k n (by omega) hn, ih (by omega)]

theorem satN_step (h : WF vars ds) {n : Nat} (h2 : 2 ≤ n) (hn : n < ds.length + 2) : satN ds n = if (dec ds n).2.1 = 0 then 2 ^ (dec ds n).1 + satN ds (dec ds n).2.2 else satN ds (dec ds n).2.1 := by
  have hl := h.lo n h2 hn
  have hh := h.hi n h2 hn
  obtain ⟨k, rfl⟩ : ∃ k, n = k + 1 := ⟨n - 1, by omega⟩
  conv => lhs; unfold satN sat
  rw [if_neg (by omega), sat_N h _ (by omega) k (by omega), sat_N h _ (by omega) k (by omega)]

/-- At the head of the loop: the set so far, and the condition that is left. -/
structure SatAt (ds : List Dec) (x y st : Nat) : Prop where
  ne : y ≠ 0
  lt : y < ds.length + 2
  sum : st + satN ds y = satN ds x
  div : 2 ^ top ds y ∣ st
  small : st < 256

theorem SatAt.with_ (h : WF vars ds) (hv : vars ≤ 8) {x y st : Nat} (A : SatAt ds x y st) (h2 : 2 ≤ y) (e : (dec ds y).2.1 = 0) : SatAt ds x (dec ds y).2.2 (st ||| 2 ^ (dec ds y).1) ∧ st ||| 2 ^ (dec ds y).1 < 256 := by
  have hl := h.lo y h2 A.lt
  have hh := h.hi y h2 A.lt
  have th := h.thi y h2 A.lt
  have hne := h.ne y h2 A.lt
  have hnm := h.name y h2 A.lt
  have et : top ds y = (dec ds y).1 + 1 := if_neg (by omega)
  obtain ⟨q, hq⟩ := A.div
  rw [et] at hq
  have hor : st ||| 2 ^ (dec ds y).1 = st + 2 ^ (dec ds y).1 := by
    rw [hq]
    exact (Nat.two_pow_add_eq_or_of_lt (Nat.pow_lt_pow_right (by omega) (by omega)) q).symm
  have hlt : st ||| 2 ^ (dec ds y).1 < 2 ^ 8 := Nat.or_lt_two_pow A.small (Nat.pow_lt_pow_right (by omega) (by omega))
  have hs := A.sum
  rw [satN_step h h2 A.lt, if_pos e] at hs
  have hAl := A.lt
  refine ⟨⟨by omega, by omega, by omega, ?_, hlt⟩, hlt⟩
  rw [hor, hq]
  refine Nat.dvd_trans (Nat.pow_dvd_pow 2 th) ?_
  rw [Nat.pow_succ, Nat.mul_assoc]
  exact Nat.dvd_add (Nat.dvd_mul_right _ _) (Nat.dvd_refl _)

theorem SatAt.without_ (h : WF vars ds) {x y st : Nat} (A : SatAt ds x y st) (h2 : 2 ≤ y) (e : (dec ds y).2.1 ≠ 0) : SatAt ds x (dec ds y).2.1 st := by
  have hl := h.lo y h2 A.lt
  have tl := h.tlo y h2 A.lt
  have et : top ds y = (dec ds y).1 + 1 := if_neg (by omega)
  have hs := A.sum
  rw [satN_step h h2 A.lt, if_neg e] at hs
  have hAl := A.lt
  exact ⟨e, by omega, hs, Nat.dvd_trans (Nat.pow_dvd_pow 2 (by omega)) A.div, A.small⟩

theorem or_wrap {q n : Nat} (hn : 2 ^ n < 256) (hq : q < 256) : Go.bits .or .i64 (q : Int) (wrap64 (2 ^ n)) = ((q ||| 2 ^ n : Nat) : Int) := by
  have e : ((2 : Int) ^ n) = ((2 ^ n : Nat) : Int) := by simp
  rw [e]
  generalize 2 ^ n = z at hn ⊢
  rw [IntWalk.wrap64_in _ (by omega), or_nat _ _ hq hn]

set_option maxHeartbeats 1000000 in
theorem Sat_none (h : Ar w B p m sv vars ds) :
    Calls Try.prog 13 #[.pointer (some ⟨p, 0, none⟩), .int .i64 0] w fun e w' => e = .returned (.tuple #[.int .i64 0, .bool false, .int .i64 0]) ∧ Below w.heap.size w w' := by
  have hA := h.alloc (.cells #[.int .i64 (0 : Int)] 35)
  have HK := Lib.hid (knows_yes hA w.heap.size 1 1 _ (by omega) (Nodes.new1 w (0 : Int)) (fun i _ => by omega))
  go_enter Try.func13, Try.ntmps13
  go_wp2_with fail
  refine (HK.out).mono ?_
  rintro e w1 ⟨rfl, rfl⟩
  go_wp2_with fail
  go_ret3
  exact ⟨rfl, (Below.refl _ _).alloc (Nat.le_refl _) _⟩

set_option maxHeartbeats 2000000 in
theorem Sat_any (h : Ar w B p m sv vars ds) (x : Nat) (hx0 : x ≠ 0) (hx : x < ds.length + 2) :
    Calls Try.prog 13 #[.pointer (some ⟨p, 0, none⟩), .int .i64 (x : Int)] w fun e w' => e = .returned (.tuple #[.int .i64 ((satN ds x : Nat) : Int), .bool true, .int .i64 0]) ∧ Below w.heap.size w w' := by
  have hA := h.alloc (.cells #[.int .i64 (x : Int)] 35)
  have HK := Lib.hid (knows_yes hA w.heap.size 1 1 _ (by omega) (Nodes.new1 w (x : Int)) (fun i _ => by omega))
  have v8 := h.v8
  have hx1 : ((x : Int) == 0) = false := beq_eq_false_iff_ne.2 (by omega)
  have S0 : SatAt ds x x 0 := ⟨hx0, hx, by simp, Nat.dvd_zero _, by omega⟩
  clear hx0
  go_enter Try.func13, Try.ntmps13
  go_wp2_with fail
  refine (HK.out).mono ?_
  rintro e w1 ⟨rfl, rfl⟩
  go_wp2_with fail
  have hbA : Below w.heap.size w (w.alloc (.cells #[.int .i64 (x : Int)] 35)) := (Below.refl _ _).alloc (Nat.le_refl _) _
  generalize w.alloc (.cells #[.int .i64 (x : Int)] 35) = WA at hA hbA HK ⊢
  go_loopw [1, 4, 7, 8] (fun t st _ _ wr => ∃ y q : Nat, SatAt ds x y q ∧ t = .int .i64 (y : Int) ∧ st = .int .i64 (q : Int) ∧ Below WA.heap.size WA wr) (fun t _ _ _ _ => (intOf t).toNat)
  case atStart => exact ⟨x, 0, S0, rfl, rfl, Below.refl _ _⟩
  case round =>
    obtain ⟨y, q, hS, rfl, rfl, hb⟩ := hrel
    have hAr := hA.below hb
    have hy := hS.lt
    by_cases h2 : 2 ≤ y
    · have h2' : (2 : Int) ≤ (y : Int) := by omega
      have l1 := h.wf.lo y h2 hy
      have l2 := h.wf.hi y h2 hy
      have l5 := h.wf.name y h2 hy
      have k7 : ((dec ds y).1 : Int) ≤ 64 := by omega
      have hp : 2 ^ (dec ds y).1 < 256 := show 2 ^ (dec ds y).1 < 2 ^ 8 from Nat.pow_lt_pow_right (by omega) (by omega)
      have hq8 := hS.small
      by_cases e0 : (dec ds y).2.1 = 0
      · obtain ⟨hS', hlt'⟩ := hS.with_ h.wf v8 h2 e0
        have hz : (((dec ds y).2.1 : Int) == 0) = true := beq_iff_eq.2 (by omega)
        have HS' := Lib.hid hS'
        clear e0 hS'
        go_wp2_with fail
        refine (decision_any hAr y h2 hy).mono ?_
        rintro e w2 ⟨rfl, hb2⟩
        unfold keyOf
        go_wp2_with fail
        refine (side_sel _ _ _ _ _).mono ?_
        rintro e w3 ⟨rfl, hb3⟩
        go_wp2_with fail
        refine ⟨⟨_, _, HS'.out, rfl, congrArg (Value.int .i64) (or_wrap hp hq8), (hb.trans (hb2.mono hb.size)).trans (((Below.refl w2.heap.size w2).alloc (Nat.le_refl _) _).trans (hb3.mono (by simp)) |>.mono (Nat.le_trans hb.size hb2.size))⟩, ?_⟩
        simp only [intOf, sel, if_true, Int.toNat_natCast]
        omega
      · have hS' := hS.without_ h.wf h2 e0
        have hz : (((dec ds y).2.1 : Int) == 0) = false := beq_eq_false_iff_ne.2 (by omega)
        have HS' := Lib.hid hS'
        clear e0 hS'
        go_wp2_with fail
        refine (decision_any hAr y h2 hy).mono ?_
        rintro e w2 ⟨rfl, hb2⟩
        unfold keyOf
        go_wp2_with fail
        refine (side_sel _ _ _ _ _).mono ?_
        rintro e w3 ⟨rfl, hb3⟩
        go_wp2_with fail
        refine ⟨⟨_, _, HS'.out, rfl, rfl, (hb.trans (hb2.mono hb.size)).trans (((Below.refl w2.heap.size w2).alloc (Nat.le_refl _) _).trans (hb3.mono (by simp)) |>.mono (Nat.le_trans hb.size hb2.size))⟩, ?_⟩
        simp only [intOf, sel, Bool.false_eq_true, if_false, Int.toNat_natCast]
        omega
    · have h2' : (y : Int) < 2 := by omega
      have HS := Lib.hid hS
      clear hS
      go_wp2_with fail
      go_ret3
      refine ⟨?_, hbA.trans (hb.mono hbA.size)⟩
      have e1 : y = 1 := by have := HS.out.ne; omega
      have := HS.out.sum
      rw [e1] at this
      have e2 : satN ds 1 = 0 := rfl
      rw [← this, e2]
      rfl
end
end Go.Proofs.Ythhcahojbgcihaa
