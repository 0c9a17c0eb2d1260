/- What is proved: what the document reads off its tables. -/
import Derived.Test.YthhcahojbgcihaaR2
namespace Go.Proofs.Ythhcahojbgcihaa
open Go.RowKit Bd

def pickF (c : Int) (n : Nat) : Nat := ((if c < 0 then -(c + 1) else c) % (n : Int)).toNat

theorem pickF_lt (c : Int) {n : Nat} (h : 0 < n) : pickF c n < n := by
  unfold pickF
  have h1 := Int.emod_nonneg (if c < 0 then -(c + 1) else c) (b := (n : Int)) (by omega)
  have h2 := Int.emod_lt_of_pos (if c < 0 then -(c + 1) else c) (b := (n : Int)) (by omega)
  omega

theorem pickF_int (c : Int) {n : Nat} (h : 0 < n) : ((pickF c n : Nat) : Int) = (if c < 0 then -(c + 1) else c) % (n : Int) := by
  unfold pickF
  have h1 := Int.emod_nonneg (if c < 0 then -(c + 1) else c) (b := (n : Int)) (by omega)
  omega

set_option maxHeartbeats 1000000 in
theorem pick_any (c : Int) (n : Nat) (h1 : -9223372036854775808 ≤ c) (h2 : c ≤ 9223372036854775807) (h3 : 0 < n) (h4 : n ≤ 1000) (w : World) :
    Calls Try.prog 27 #[.int .i64 c, .int .i64 (n : Int)] w fun e w' => e = .returned (.int .i64 ((pickF c n : Nat) : Int)) ∧ w = w' := by
  have HP := Lib.hid (pickF_int c h3)
  have h3' : (0 : Int) < (n : Int) := by omega
  have hne : ((n : Int) == 0) = false := beq_eq_false_iff_ne.2 (by omega)
  by_cases hc : c < 0
  · go_enter Try.func27, Try.ntmps27
    go_wp2_with fail
    go_ret
    refine ⟨ret_int ?_, rfl⟩
    rw [HP.out, if_pos hc, ← Int.neg_tmod, Int.tmod_eq_emod_of_nonneg (by omega)]
  · have hc' : 0 ≤ c := by omega
    go_enter Try.func27, Try.ntmps27
    go_wp2_with fail
    go_ret
    refine ⟨ret_int ?_, rfl⟩
    rw [HP.out, if_neg (by omega)]

set_option maxHeartbeats 1000000 in
theorem countT (N : Nat) (h0 : 0 < N) (hN : N ≤ 256) (w : World) {B : Nat} {t : Value} {g : Nat → Bool} (ht : Tab w B t N g) :
    Calls Try.prog 17 #[t] w fun e w' => e = .returned (.int .i64 (((List.range N).countP g : Nat) : Int)) ∧ w = w' := by
  obtain ⟨b, c, rfl, l, mc, f⟩ := ht.form h0
  have F := Lib.hid f
  clear f ht
  go_enter Try.func17, Try.ntmps17
  go_wp2_with fail
  go_loop [3, 4] (fun q i => ∃ k : Nat, k ≤ N ∧ i = .int .i64 k ∧ q = .int .i64 (((List.range k).countP g : Nat) : Int)) (fun _ i => N - (intOf i).toNat)
  case atStart => exact ⟨0, Nat.zero_le _, rfl, rfl⟩
  case round =>
    obtain ⟨k, hk, rfl, rfl⟩ := hrel
    by_cases hlt : k < N
    · have hlt' : (k : Int) < (N : Int) := by omega
      have q := F.out k hlt
      have HS : Hid ((List.range (k + 1)).countP g = (List.range k).countP g + if g k then 1 else 0) := by
        unfold Hid
        rw [List.range_succ, List.countP_append]
        simp [List.countP_cons]
      have hle : (List.range k).countP g ≤ k := by
        have := List.countP_le_length (l := List.range k) (p := g)
        simpa using this
      generalize hz : g k = z at q
      have HZ := Lib.hid hz
      clear hz
      cases z
      all_goals
        go_wp2_with fail
        go_round
        case rel => exact ⟨k + 1, by omega, by go_num, by rw [HS.out, HZ.out]; simp⟩
        case measure => simp [intOf]; omega
    · obtain rfl : k = N := by omega
      go_wp2_with fail
      go_ret
      exact ⟨rfl, rfl⟩

def FirstIs (N : Nat) (g : Nat → Bool) (w : World) (e : Ending) (w' : World) : Prop :=
  ((∃ s : Nat, s < N ∧ g s = true ∧ (∀ q, q < s → g q = false) ∧ e = .returned (.tuple #[.int .i64 (s : Int), .bool true])) ∨ ((∀ q, q < N → g q = false) ∧ e = .returned (.tuple #[.int .i64 0, .bool false]))) ∧ w = w'
def NoneUpTo (g : Nat → Bool) (k : Nat) : Prop := ∀ q, q < k → g q = false

set_option maxHeartbeats 1000000 in
theorem satT (N : Nat) (h0 : 0 < N) (hN : N ≤ 256) (w : World) {B : Nat} {t : Value} {g : Nat → Bool} (ht : Tab w B t N g) :
    Calls Try.prog 14 #[t] w (FirstIs N g w) := by
  obtain ⟨b, c, rfl, l, mc, f⟩ := ht.form h0
  have F := Lib.hid f
  clear f ht
  go_enter Try.func14, Try.ntmps14
  go_wp2_with fail
  go_loop [4] (fun i => ∃ k : Nat, k ≤ N ∧ i = .int .i64 k ∧ NoneUpTo g k) (fun i => N - (intOf i).toNat)
  case atStart => exact ⟨0, Nat.zero_le _, rfl, fun q hq => by omega⟩
  case round =>
    obtain ⟨k, hk, rfl, hno⟩ := hrel
    by_cases hlt : k < N
    · have hlt' : (k : Int) < (N : Int) := by omega
      have q := F.out k hlt
      generalize hz : g k = z at q
      have HZ := Lib.hid hz
      clear hz
      cases z
      · go_wp2_with fail
        go_round
        case rel =>
          refine ⟨k + 1, by omega, by go_num, fun q hq => ?_⟩
          by_cases e : q = k
          · rw [e]; exact HZ.out
          · exact hno q (by omega)
        case measure => simp [intOf]; omega
      · go_wp2_with fail
        go_ret2
        exact ⟨.inl ⟨k, hlt, HZ.out, hno, rfl⟩, rfl⟩
    · obtain rfl : k = N := by omega
      go_wp2_with fail
      go_ret2
      exact ⟨.inr ⟨hno, rfl⟩, rfl⟩

def EqualIs (N : Nat) (f g : Nat → Bool) (w : World) (e : Ending) (w' : World) : Prop := ∃ b : Bool, (b = true ↔ ∀ q, q < N → f q = g q) ∧ e = .returned (.bool b) ∧ Below w.heap.size w w'
def SameUpTo (f g : Nat → Bool) (k : Nat) : Prop := ∀ q, q < k → f q = g q

set_option maxHeartbeats 1000000 in
theorem equalT (N : Nat) (h0 : 0 < N) (hN : N ≤ 256) (w : World) {B B' : Nat} {t u : Value} {f g : Nat → Bool} (ht : Tab w B t N f) (hu : Tab w B' u N g) :
    Calls Try.prog 12 #[t, u] w (EqualIs N f g w) := by
  obtain ⟨b, c, rfl, l, mc, f1⟩ := ht.form h0
  obtain ⟨b', c', rfl, l', mc', f2⟩ := hu.form h0
  have F1 := Lib.hid f1
  have F2 := Lib.hid f2
  clear f1 f2 ht hu
  go_enter Try.func12, Try.ntmps12
  go_wp2_with fail
  go_loopw [5] (fun i wr => ∃ k : Nat, k ≤ N ∧ i = .int .i64 k ∧ SameUpTo f g k ∧ Below w.heap.size w wr) (fun i _ => N - (intOf i).toNat)
  case atStart => exact ⟨0, Nat.zero_le _, rfl, fun q hq => by omega, Below.refl _ _⟩
  case round =>
    obtain ⟨k, hk, rfl, hno, hb⟩ := hrel
    by_cases hlt : k < N
    · have hlt' : (k : Int) < (N : Int) := by omega
      have q1 := (hb.cell (p := ⟨b, k, none⟩) l).trans (F1.out k hlt)
      have q2 := (hb.cell (p := ⟨b', k, none⟩) l').trans (F2.out k hlt)
      generalize hz : f k = z at q1
      generalize hy : g k = y at q2
      have HZ := Lib.hid hz
      have HY := Lib.hid hy
      clear hz hy
      have same : z = y → SameUpTo f g (k + 1) := by
        intro e q hq
        by_cases e' : q = k
        · rw [e', HZ.out, HY.out, e]
        · exact hno q (by omega)
      have diff : z ≠ y → ¬ ∀ q, q < N → f q = g q := by
        intro e h
        exact e (by rw [← HZ.out, ← HY.out]; exact h k hlt)
      have HS := Lib.hid same
      have HD := Lib.hid diff
      clear same diff
      cases z <;> cases y
      · go_wp2_with fail
        go_quiet (fail)
        go_wp2_with fail
        go_roundw
        case rel => exact ⟨k + 1, by omega, by go_num, HS.out (by simp), below_drewN hb _⟩
        case measure => simp [intOf]; omega
      · go_wp2_with fail
        go_quiet (fail)
        go_wp2_with fail
        go_ret
        exact ⟨false, ⟨(fun h => by cases h), fun h => (HD.out (by simp) h).elim⟩, rfl, below_drewN hb _⟩
      · go_wp2_with fail
        go_quiet (fail)
        go_wp2_with fail
        go_ret
        exact ⟨false, ⟨(fun h => by cases h), fun h => (HD.out (by simp) h).elim⟩, rfl, below_drewN hb _⟩
      · go_wp2_with fail
        go_quiet (fail)
        go_wp2_with fail
        go_roundw
        case rel => exact ⟨k + 1, by omega, by go_num, HS.out (by simp), below_drewN hb _⟩
        case measure => simp [intOf]; omega
    · obtain rfl : k = N := by omega
      go_wp2_with fail
      go_ret
      exact ⟨true, ⟨fun _ => hno, fun _ => rfl⟩, rfl, hb⟩
end Go.Proofs.Ythhcahojbgcihaa
