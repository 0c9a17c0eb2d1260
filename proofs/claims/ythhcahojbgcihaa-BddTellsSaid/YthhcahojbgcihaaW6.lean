/- What is proved: what count and asked of package bdd come to. -/
import Derived.Test.YthhcahojbgcihaaW5
import Derived.Test.YthhcahojbgcihaaPure3
import Derived.IntWalk
namespace Go.Proofs.Ythhcahojbgcihaa
open Go.RowKit Bd

section
variable {w : World} {B p m vars : Nat} {sv : Value} {ds : List Dec}

set_option maxHeartbeats 1000000 in
theorem count_low (w : World) (x t : Nat) (hx : x < 2) (ht : t ≤ 8) :
    Calls Try.prog 34 #[.pointer (some ⟨p, 0, none⟩), .int .i64 (x : Int), .int .i64 (t : Int)] w fun e w' => e = .returned (.int .i64 ((x * 2 ^ t : Nat) : Int)) ∧ w = w' := by
  have hx' : (x : Int) < 2 := by omega
  go_enter Try.func34, Try.ntmps34
  go_wp2_with fail
  go_ret
  refine ⟨ret_int ?_, rfl⟩
  have hp := pow8 ht
  have hb : x * 2 ^ t ≤ 1 * 256 := Nat.mul_le_mul (by omega) hp
  have e : (x : Int) * 2 ^ t = ((x * 2 ^ t : Nat) : Int) := by simp
  rw [e]
  exact IntWalk.wrap64_in _ (by omega)

theorem wrapped (n : Nat) (h : n ≤ 65536) : IntKind.i64.wrap (n : Int) = (n : Int) := IntWalk.i64_in _ (by omega)
theorem cnt_le8 (ds : List Dec) (x : Nat) {t : Nat} (ht : t ≤ 8) : cnt ds x t ≤ 65536 := by
  have := cnt_le ds x t
  have := pow8 ht
  omega

set_option maxHeartbeats 2000000 in
theorem count_any : ∀ (x : Nat) (w : World) (t : Nat), Ar w B p m sv vars ds → x < ds.length + 2 → top ds x ≤ t → t ≤ 8 →
    Calls Try.prog 34 #[.pointer (some ⟨p, 0, none⟩), .int .i64 (x : Int), .int .i64 (t : Int)] w fun e w' => e = .returned (.int .i64 ((cnt ds x t : Nat) : Int)) ∧ Below w.heap.size w w' := by
  intro x
  induction x using Nat.strongRecOn with
  | ind x ih =>
    intro w t h hx tx ht
    by_cases hlt : x < 2
    · rw [cnt_low h.wf hlt]
      exact (count_low w x t hlt ht).mono fun e w' ⟨h1, h2⟩ => ⟨h1, h2 ▸ Below.refl _ _⟩
    · have h2 : 2 ≤ x := by omega
      have h2' : (2 : Int) ≤ (x : Int) := by omega
      have et : top ds x = (dec ds x).1 + 1 := if_neg (by omega)
      have l1 := h.wf.lo x h2 hx
      have l2 := h.wf.hi x h2 hx
      have l3 := h.wf.tlo x h2 hx
      have l4 := h.wf.thi x h2 hx
      have dt : (dec ds x).1 + 1 ≤ t := by omega
      have HR := Lib.hid (cnt_high h.wf h2 hx tx)
      have IH := Lib.hid ih
      clear ih et
      go_enter Try.func34, Try.ntmps34
      go_wp2_with fail
      refine (decision_any h x h2 hx).mono ?_
      rintro e w2 ⟨rfl, hb2⟩
      have hA2 := h.below hb2
      unfold keyOf
      go_wp2_with fail
      have hbW := hb2.alloc hb2.size (.cells #[.int .i64 ((dec ds x).1 : Int), .int .i64 ((dec ds x).2.1 : Int), .int .i64 ((dec ds x).2.2 : Int)] 67)
      have hAW := hA2.alloc (.cells #[.int .i64 ((dec ds x).1 : Int), .int .i64 ((dec ds x).2.1 : Int), .int .i64 ((dec ds x).2.2 : Int)] 67)
      have hBx : Box (w2.alloc (.cells #[.int .i64 ((dec ds x).1 : Int), .int .i64 ((dec ds x).2.1 : Int), .int .i64 ((dec ds x).2.2 : Int)] 67)) w2.heap.size (dec ds x) := heap_alloc_new _ _
      generalize w2.heap.size = bx at hBx ⊢
      generalize (w2.alloc (.cells #[.int .i64 ((dec ds x).1 : Int), .int .i64 ((dec ds x).2.1 : Int), .int .i64 ((dec ds x).2.2 : Int)] 67)) = W at hbW hAW hBx ⊢
      have C1 := Lib.hid (IH.out (dec ds x).2.1 l1 W.drew (dec ds x).1 hAW.drew (by omega) l3 (by omega))
      have C2 := Lib.hid (fun w4 (hA4 : Ar w4 B p m sv vars ds) => IH.out (dec ds x).2.2 l2 w4 (dec ds x).1 hA4 (by omega) l4 (by omega))
      have b0 := hBx.c0
      have b1 := hBx.c1
      have b2 := hBx.c2
      have k1 : cnt ds (dec ds x).2.1 (dec ds x).1 ≤ 256 := Nat.le_trans (cnt_le _ _ _) (pow8 (by omega))
      have k2 : cnt ds (dec ds x).2.2 (dec ds x).1 ≤ 256 := Nat.le_trans (cnt_le _ _ _) (pow8 (by omega))
      have k3 : (0 : Int) ≤ (t : Int) - 1 - ((dec ds x).1 : Int) := by omega
      have k4 : (t : Int) - 1 - ((dec ds x).1 : Int) ≤ 64 := by omega
      have e1 : IntKind.i64.wrap ((cnt ds (dec ds x).2.1 (dec ds x).1 : Int) + (cnt ds (dec ds x).2.2 (dec ds x).1 : Int)) = (cnt ds (dec ds x).2.1 (dec ds x).1 : Int) + (cnt ds (dec ds x).2.2 (dec ds x).1 : Int) := IntWalk.i64_in _ (by omega)
      have e2 : IntKind.i64.wrap ((t : Int) - 1) = (t : Int) - 1 := IntWalk.i64_in _ (by omega)
      have e3 : IntKind.i64.wrap ((t : Int) - 1 - ((dec ds x).1 : Int)) = (t : Int) - 1 - ((dec ds x).1 : Int) := IntWalk.i64_in _ (by omega)
      go_region_held3 (fun w' => w'.cell? ⟨bx, 0, none⟩ = some (.int .i64 ((dec ds x).1 : Int)) ∧ w'.cell? ⟨bx, 1, none⟩ = some (.int .i64 ((dec ds x).2.1 : Int)) ∧ w'.cell? ⟨bx, 2, none⟩ = some (.int .i64 ((dec ds x).2.2 : Int))) (first | exact ⟨b0, b1, b2⟩ | exact ⟨hB4.c0, hB4.c1, hB4.c2⟩ | exact ⟨hB5.c0, hB5.c1, hB5.c2⟩)
        (first
          | (go_at_call 34; (with_reducible refine (C1.out).mono ?_); rintro e w4 ⟨rfl, hb4⟩; have hB4 := hBx.drew.below hb4; have hA4 := hAW.drew.below hb4)
          | (go_at_call 34; (with_reducible refine (C2.out w4 hA4).mono ?_); rintro e w5 ⟨rfl, hb5⟩; have hB5 := hB4.below hb5))
      go_wp2_with fail
      go_ret
      refine ⟨ret_int (Eq.trans ?_ (wrapped _ (cnt_le8 ds x ht))), (hbW.drew.trans (hb4.mono hbW.size)).trans (hb5.mono (Nat.le_trans hbW.size hb4.size))⟩
      rw [HR.out]
      simp

/-- The set of the names on which a condition hangs. -/
def OnlyIs (ds : List Dec) (x A : Nat) : Prop := A < 256 ∧ ∀ i, A.testBit i = true ↔ dep ds x i

def AsksFor (w : World) (ds : List Dec) (x : Nat) (e : Ending) (w' : World) : Prop := ∃ A : Nat, OnlyIs ds x A ∧ e = .returned (.int .i64 (A : Int)) ∧ Below w.heap.size w w'

theorem or_nat (a b : Nat) (ha : a < 256) (hb : b < 256) : Go.bits .or .i64 (a : Int) (b : Int) = ((a ||| b : Nat) : Int) := by
  have hx : a ||| b < 2 ^ 8 := Nat.or_lt_two_pow (by omega) (by omega)
  have ea : (BitVec.ofInt 64 (a : Int)).toNat = a := by rw [BitVec.ofInt_natCast, BitVec.toNat_ofNat]; exact Nat.mod_eq_of_lt (by omega)
  have eb : (BitVec.ofInt 64 (b : Int)).toNat = b := by rw [BitVec.ofInt_natCast, BitVec.toNat_ofNat]; exact Nat.mod_eq_of_lt (by omega)
  show IntKind.i64.wrap ((BitVec.ofInt 64 (a : Int) ||| BitVec.ofInt 64 (b : Int)).toNat : Int) = _
  rw [BitVec.toNat_or, ea, eb]
  exact wrapped _ (by omega)

theorem only_step {x n A1 A2 : Nat} {P1 P2 : Nat → Prop} (hn : n < 8) (hD : ∀ i, dep ds x i ↔ i = n ∨ P1 i ∨ P2 i) (h1 : A1 < 256 ∧ ∀ i, A1.testBit i = true ↔ P1 i) (h2 : A2 < 256 ∧ ∀ i, A2.testBit i = true ↔ P2 i) : OnlyIs ds x (2 ^ n ||| A1 ||| A2) := by
  have hp : 2 ^ n < 2 ^ 8 := Nat.pow_lt_pow_right (by omega) hn
  refine ⟨?_, fun i => ?_⟩
  · exact Nat.or_lt_two_pow (n := 8) (Nat.or_lt_two_pow hp h1.1) h2.1
  · rw [hD i, Nat.testBit_or, Nat.testBit_or, Bool.or_eq_true, Bool.or_eq_true, h1.2 i, h2.2 i, Nat.testBit_two_pow, decide_eq_true_iff, or_assoc]
    constructor
    · rintro (e | e)
      · exact .inl e.symm
      · exact .inr e
    · rintro (e | e)
      · exact .inl e.symm
      · exact .inr e

theorem or_step {n A1 A2 : Nat} (hn : n < 8) (h1 : A1 < 256) (h2 : A2 < 256) : Go.bits .or .i64 (Go.bits .or .i64 (IntKind.i64.wrap (2 ^ n)) (A1 : Int)) (A2 : Int) = ((2 ^ n ||| A1 ||| A2 : Nat) : Int) := by
  have hp : 2 ^ n < 2 ^ 8 := Nat.pow_lt_pow_right (by omega) hn
  have e : ((2 : Int) ^ n) = ((2 ^ n : Nat) : Int) := by simp
  rw [e, wrapped _ (by omega), or_nat _ _ (by omega) h1, or_nat _ _ (Nat.or_lt_two_pow (n := 8) hp h1) h2]

set_option maxHeartbeats 2000000 in
theorem asked_any : ∀ (x : Nat) (w : World), Ar w B p m sv vars ds → x < ds.length + 2 →
    Calls Try.prog 35 #[.pointer (some ⟨p, 0, none⟩), .int .i64 (x : Int)] w (AsksFor w ds x) := by
  intro x
  induction x using Nat.strongRecOn with
  | ind x ih =>
    intro w h hx
    by_cases hlt : x < 2
    · have hx' : (x : Int) < 2 := by omega
      clear ih
      go_enter Try.func35, Try.ntmps35
      go_wp2_with fail
      go_ret
      exact ⟨0, ⟨by omega, fun i => by simp; exact dep_low hlt⟩, rfl, Below.refl _ _⟩
    · have h2 : 2 ≤ x := by omega
      have h2' : (2 : Int) ≤ (x : Int) := by omega
      have l1 := h.wf.lo x h2 hx
      have l2 := h.wf.hi x h2 hx
      have l5 := h.wf.name x h2 hx
      have v8 := h.v8
      have HD := Lib.hid (fun i => dep_iff (i := i) h.wf h2 hx)
      have IH := Lib.hid ih
      clear ih
      go_enter Try.func35, Try.ntmps35
      go_wp2_with fail
      refine (decision_any h x h2 hx).mono ?_
      rintro e w2 ⟨rfl, hb2⟩
      have hA2 := h.below hb2
      unfold keyOf
      go_wp2_with fail
      have hbW := hb2.alloc hb2.size (.cells #[.int .i64 ((dec ds x).1 : Int), .int .i64 ((dec ds x).2.1 : Int), .int .i64 ((dec ds x).2.2 : Int)] 67)
      have hAW := hA2.alloc (.cells #[.int .i64 ((dec ds x).1 : Int), .int .i64 ((dec ds x).2.1 : Int), .int .i64 ((dec ds x).2.2 : Int)] 67)
      have hBx : Box (w2.alloc (.cells #[.int .i64 ((dec ds x).1 : Int), .int .i64 ((dec ds x).2.1 : Int), .int .i64 ((dec ds x).2.2 : Int)] 67)) w2.heap.size (dec ds x) := heap_alloc_new _ _
      generalize w2.heap.size = bx at hBx ⊢
      generalize (w2.alloc (.cells #[.int .i64 ((dec ds x).1 : Int), .int .i64 ((dec ds x).2.1 : Int), .int .i64 ((dec ds x).2.2 : Int)] 67)) = W at hbW hAW hBx ⊢
      have C1 := Lib.hid (IH.out (dec ds x).2.1 l1 W.drew hAW.drew (by omega))
      have C2 := Lib.hid (fun w4 (hA4 : Ar w4 B p m sv vars ds) => IH.out (dec ds x).2.2 l2 w4 hA4 (by omega))
      have b0 := hBx.c0
      have b1 := hBx.c1
      have b2 := hBx.c2
      have k4 : ((dec ds x).1 : Int) ≤ 64 := by omega
      go_region_held3 (fun w' => w'.cell? ⟨bx, 0, none⟩ = some (.int .i64 ((dec ds x).1 : Int)) ∧ w'.cell? ⟨bx, 1, none⟩ = some (.int .i64 ((dec ds x).2.1 : Int)) ∧ w'.cell? ⟨bx, 2, none⟩ = some (.int .i64 ((dec ds x).2.2 : Int))) (first | exact ⟨b0, b1, b2⟩ | exact ⟨hB4.c0, hB4.c1, hB4.c2⟩ | exact ⟨hB5.c0, hB5.c1, hB5.c2⟩)
        (first
          | (go_at_call 35; (with_reducible refine (C1.out).mono ?_); rintro e w4 ⟨A1, hO1, rfl, hb4⟩; have hB4 := hBx.drew.below hb4; have hA4 := hAW.drew.below hb4)
          | (go_at_call 35; (with_reducible refine (C2.out w4 hA4).mono ?_); rintro e w5 ⟨A2, hO2, rfl, hb5⟩; have hB5 := hB4.below hb5))
      go_wp2_with fail
      go_ret
      refine ⟨2 ^ (dec ds x).1 ||| A1 ||| A2, only_step (by omega) HD.out hO1 hO2, ret_int ?_, (hbW.drew.trans (hb4.mono hbW.size)).trans (hb5.mono (Nat.le_trans hbW.size hb4.size))⟩
      exact or_step (by omega) hO1.1 hO2.1
end

section
variable {w : World} {B p m vars : Nat} {sv : Value} {ds : List Dec}

set_option maxHeartbeats 1000000 in
theorem Count_any (h : Ar w B p m sv vars ds) (x : Nat) (hx : x < ds.length + 2) :
    Calls Try.prog 15 #[.pointer (some ⟨p, 0, none⟩), .int .i64 (x : Int)] w fun e w' => e = .returned (.tuple #[.int .i64 ((cnt ds x vars : Nat) : Int), .int .i64 0]) ∧ Below w.heap.size w w' := by
  have hA := h.alloc (.cells #[.int .i64 (x : Int)] 35)
  have HK := Lib.hid (knows_yes hA w.heap.size 1 1 _ (by omega) (Nodes.new1 w (x : Int)) (fun i _ => by omega))
  have HV := Lib.hid (vars_any hA)
  have HC := Lib.hid (count_any x _ vars hA hx (top_le h.wf hx) h.v8)
  go_enter Try.func15, Try.ntmps15
  go_wp2_with fail
  refine (HK.out).mono ?_
  rintro e w1 ⟨rfl, rfl⟩
  go_wp2_with fail
  refine (HV.out).mono ?_
  rintro e w1 ⟨rfl, rfl⟩
  go_wp2_with fail
  refine (HC.out).mono ?_
  rintro e w1 ⟨rfl, hb1⟩
  go_wp2_with fail
  go_ret2
  exact ⟨rfl, ((Below.refl _ _).alloc (Nat.le_refl _) _).trans (hb1.mono (by simp))⟩

def OnlyTells (w : World) (ds : List Dec) (x : Nat) (e : Ending) (w' : World) : Prop := ∃ A : Nat, OnlyIs ds x A ∧ e = .returned (.tuple #[.int .i64 (A : Int), .int .i64 0]) ∧ Below w.heap.size w w'

set_option maxHeartbeats 1000000 in
theorem Only_any (h : Ar w B p m sv vars ds) (x : Nat) (hx : x < ds.length + 2) :
    Calls Try.prog 16 #[.pointer (some ⟨p, 0, none⟩), .int .i64 (x : Int)] w (OnlyTells w ds x) := by
  have hA := h.alloc (.cells #[.int .i64 (x : Int)] 35)
  have HK := Lib.hid (knows_yes hA w.heap.size 1 1 _ (by omega) (Nodes.new1 w (x : Int)) (fun i _ => by omega))
  have HC := Lib.hid (asked_any x _ hA hx)
  go_enter Try.func16, Try.ntmps16
  go_wp2_with fail
  refine (HK.out).mono ?_
  rintro e w1 ⟨rfl, rfl⟩
  go_wp2_with fail
  refine (HC.out).mono ?_
  rintro e w1 ⟨A, hO, rfl, hb1⟩
  go_wp2_with fail
  go_ret2
  exact ⟨A, hO, rfl, ((Below.refl _ _).alloc (Nat.le_refl _) _).trans (hb1.mono (by simp))⟩

theorem sel_bit {s k : Nat} (hs : s < 256) (b c : Nat) : sel (Go.bits .and .i64 ((s : Int) / 2 ^ k) 1 == 1) (b : Int) (c : Int) = ((if Bd.bits s k then c else b : Nat) : Int) := by
  have e0 : ((s : Int) / 2 ^ k) = ((s / 2 ^ k : Nat) : Int) := by simp
  have hlt : s / 2 ^ k < 256 := Nat.lt_of_le_of_lt (Nat.div_le_self _ _) hs
  have e1 : Go.bits .and .i64 ((s / 2 ^ k : Nat) : Int) ((1 : Nat) : Int) = ((s / 2 ^ k % 2 : Nat) : Int) := by
    have ea : (BitVec.ofInt 64 ((s / 2 ^ k : Nat) : Int)).toNat = s / 2 ^ k := by rw [BitVec.ofInt_natCast, BitVec.toNat_ofNat]; exact Nat.mod_eq_of_lt (by omega)
    have eb : (BitVec.ofInt 64 ((1 : Nat) : Int)).toNat = 1 := rfl
    show IntKind.i64.wrap ((BitVec.ofInt 64 ((s / 2 ^ k : Nat) : Int) &&& BitVec.ofInt 64 ((1 : Nat) : Int)).toNat : Int) = _
    rw [BitVec.toNat_and, ea, eb, Nat.and_one_is_mod]
    exact wrapped _ (by omega)
  have e2 : ((1 : Nat) : Int) = 1 := rfl
  rw [e2] at e1
  rw [e0, e1]
  have e3 : Bd.bits s k = decide (s / 2 ^ k % 2 = 1) := Nat.testBit_eq_decide_div_mod_eq
  rw [e3]
  generalize s / 2 ^ k % 2 = q
  unfold sel
  by_cases hq : q = 1
  · subst hq; rfl
  · have : ((q : Int) == 1) = false := beq_eq_false_iff_ne.2 (by omega)
    rw [this]
    simp [hq]

def SameHold (ds : List Dec) (s x y : Nat) : Prop := S ds y (Bd.bits s) = S ds x (Bd.bits s)

set_option maxHeartbeats 2000000 in
theorem Holds_any (h : Ar w B p m sv vars ds) (x s : Nat) (hx : x < ds.length + 2) (hs : s < 2 ^ vars) :
    Calls Try.prog 11 #[.pointer (some ⟨p, 0, none⟩), .int .i64 (x : Int), .int .i64 (s : Int)] w fun e w' => e = .returned (.tuple #[.bool (S ds x (Bd.bits s)), .int .i64 0]) ∧ Below w.heap.size w w' := by
  have hA := h.alloc (.cells #[.int .i64 (x : Int)] 35)
  have HK := Lib.hid (knows_yes hA w.heap.size 1 1 _ (by omega) (Nodes.new1 w (x : Int)) (fun i _ => by omega))
  have HV := Lib.hid (vars_any hA)
  have v8 := h.v8
  have hp8 := pow8 h.v8
  have k4 : (vars : Int) ≤ 64 := by omega
  have k5 : decide ((2 : Int) ^ vars ≤ (s : Int)) = false := by
    have : ((2 ^ vars : Nat) : Int) = 2 ^ vars := by simp
    simp; omega
  have k6 : IntKind.i64.wrap ((2 : Int) ^ vars) = 2 ^ vars := by
    have : ((2 ^ vars : Nat) : Int) = 2 ^ vars := by simp
    rw [← this]
    exact wrapped _ (by omega)
  have hs0 : decide ((s : Int) < 0) = false := by simp
  go_enter Try.func11, Try.ntmps11
  go_wp2_with fail
  refine (HK.out).mono ?_
  rintro e w1 ⟨rfl, rfl⟩
  go_wp2_with fail
  refine (HV.out).mono ?_
  rintro e w1 ⟨rfl, rfl⟩
  go_wp2_with fail
  have hbA : Below w.heap.size w (w.alloc (.cells #[.int .i64 (x : Int)] 35)) := (Below.refl _ _).alloc (Nat.le_refl _) _
  generalize w.alloc (.cells #[.int .i64 (x : Int)] 35) = WA at hA hbA HK HV ⊢
  go_loopw [1, 8] (fun t _ wr => ∃ y : Nat, SameHold ds s x y ∧ y < ds.length + 2 ∧ t = .int .i64 (y : Int) ∧ Below WA.heap.size WA wr) (fun t _ _ => (intOf t).toNat)
  case atStart => exact ⟨x, rfl, hx, rfl, Below.refl _ _⟩
  case round =>
    obtain ⟨y, hsame, hy, rfl, hb⟩ := hrel
    have hAr := hA.below hb
    by_cases h2 : 2 ≤ y
    · have h2' : (2 : Int) ≤ (y : Int) := by omega
      have l1 := h.wf.lo y h2 hy
      have l2 := h.wf.hi y h2 hy
      have l5 := h.wf.name y h2 hy
      go_wp2_with fail
      refine (decision_any hAr y h2 hy).mono ?_
      rintro e w2 ⟨rfl, hb2⟩
      unfold keyOf
      go_wp2_with fail
      have hbW := hb2.alloc hb2.size (.cells #[.int .i64 ((dec ds y).1 : Int), .int .i64 ((dec ds y).2.1 : Int), .int .i64 ((dec ds y).2.2 : Int)] 67)
      have hBx : Box (w2.alloc (.cells #[.int .i64 ((dec ds y).1 : Int), .int .i64 ((dec ds y).2.1 : Int), .int .i64 ((dec ds y).2.2 : Int)] 67)) w2.heap.size (dec ds y) := heap_alloc_new _ _
      generalize w2.heap.size = bx at hBx ⊢
      generalize (w2.alloc (.cells #[.int .i64 ((dec ds y).1 : Int), .int .i64 ((dec ds y).2.1 : Int), .int .i64 ((dec ds y).2.2 : Int)] 67)) = W at hbW hBx ⊢
      have b0 := hBx.c0
      have b1 := hBx.c1
      have b2 := hBx.c2
      have k7 : ((dec ds y).1 : Int) ≤ 64 := by omega
      go_region_held3 (fun w' => w'.cell? ⟨bx, 0, none⟩ = some (.int .i64 ((dec ds y).1 : Int)) ∧ w'.cell? ⟨bx, 1, none⟩ = some (.int .i64 ((dec ds y).2.1 : Int)) ∧ w'.cell? ⟨bx, 2, none⟩ = some (.int .i64 ((dec ds y).2.2 : Int))) (first | exact ⟨b0, b1, b2⟩ | exact ⟨hB4.c0, hB4.c1, hB4.c2⟩)
        (first
          | (go_at_call 33; (with_reducible refine (side_sel _ _ _ _ _).mono ?_); rintro e w4 ⟨rfl, hb4⟩; have hB4 := hBx.drew.below hb4))
      go_wp2_with fail
      rw [sel_bit (show s < 256 by omega)]
      refine ⟨⟨_, ?_, ?_, rfl, (hb.trans (hbW.drew.mono hb.size)).trans (hb4.mono (Nat.le_trans hb.size hbW.size))⟩, ?_⟩
      · exact (S_ge2 h.wf h2 hy _).symm.trans hsame
      · split <;> omega
      · simp only [intOf, Int.toNat_natCast]
        split <;> omega
    · have h2' : (y : Int) < 2 := by omega
      go_wp2_with fail
      go_ret2
      refine ⟨?_, hbA.trans (hb.mono hbA.size)⟩
      have e : S ds x (Bd.bits s) = ((y : Int) == 1) := by
        rw [← hsame, S_lt2 (by omega), Bool.eq_iff_iff]
        simp
        omega
      rw [e]
      rfl
end
end Go.Proofs.Ythhcahojbgcihaa
