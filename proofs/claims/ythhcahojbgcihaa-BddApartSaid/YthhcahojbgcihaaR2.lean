/- What is proved: what the document's other tables, and what it reads off them, come to. -/
import Derived.Test.YthhcahojbgcihaaR1
namespace Go.Proofs.Ythhcahojbgcihaa
open Go.RowKit Bd

def withOf (k i : Nat) (to : Bool) : Nat := if to then k ||| 2 ^ i else (k ||| 2 ^ i) - 2 ^ i

theorem off_bits : ∀ k < 256, ∀ i < 8, ∀ j < 8, ((k ||| 2 ^ i) - 2 ^ i).testBit j = (if j = i then false else k.testBit j) := by decide +kernel

theorem withOf_lt {k i v : Nat} (to : Bool) (hk : k < 2 ^ v) (hi : i < v) : withOf k i to < 2 ^ v := by
  have h : k ||| 2 ^ i < 2 ^ v := Nat.or_lt_two_pow hk (Nat.pow_lt_pow_right (by omega) hi)
  unfold withOf
  split
  · exact h
  · exact Nat.lt_of_le_of_lt (Nat.sub_le _ _) h

theorem withOf_bits {k i : Nat} (to : Bool) (hk : k < 256) (hi : i < 8) : Bd.bits (withOf k i to) = upd (Bd.bits k) i to := by
  funext j
  unfold Bd.bits upd withOf
  cases to
  · rw [if_neg (by simp)]
    rcases Nat.lt_or_ge j 8 with hj | hj
    · exact off_bits k hk i hi j hj
    · have h : k ||| 2 ^ i < 2 ^ 8 := Nat.or_lt_two_pow hk (Nat.pow_lt_pow_right (by omega) hi)
      have hp : 2 ^ 8 ≤ 2 ^ j := Nat.pow_le_pow_right (by omega) hj
      have h1 : (k ||| 2 ^ i) - 2 ^ i < 2 ^ j := Nat.lt_of_le_of_lt (Nat.sub_le _ _) (Nat.lt_of_lt_of_le h hp)
      rw [Nat.testBit_lt_two_pow h1, if_neg (by omega)]
      exact (Nat.testBit_lt_two_pow (by omega)).symm
  · rw [if_pos rfl, Nat.testBit_or, Nat.testBit_two_pow]
    by_cases e : j = i
    · simp [e]
    · simp [e, Ne.symm e]

theorem or_pow {q n : Nat} (hn : 2 ^ n < 256) (hq : q < 256) : IntKind.i64.wrap ((2 : Int) ^ n) = 2 ^ n ∧ Go.bits .or .i64 (q : Int) (2 ^ n) = ((q ||| 2 ^ n : Nat) : Int) := by
  have e : ((2 : Int) ^ n) = ((2 ^ n : Nat) : Int) := by simp
  rw [e]
  exact ⟨wrapped _ (by omega), or_nat _ _ hq hn⟩

theorem sub_pow {z n : Nat} (hle : 2 ^ n ≤ z) (hz : z < 2 ^ 8) : wrap64 ((z : Int) - 2 ^ n) = ((z - 2 ^ n : Nat) : Int) ∧ IntKind.i64.wrap ((z : Int) - 2 ^ n) = ((z - 2 ^ n : Nat) : Int) ∧ ((z : Int) - 2 ^ n) = ((z - 2 ^ n : Nat) : Int) := by
  have e : ((2 : Int) ^ n) = ((2 ^ n : Nat) : Int) := by simp
  rw [e]
  generalize 2 ^ n = q at hle ⊢
  have e2 : (z : Int) - (q : Int) = ((z - q : Nat) : Int) := by omega
  rw [e2]
  exact ⟨IntWalk.wrap64_in _ (by omega), wrapped _ (by omega), rfl⟩

set_option maxHeartbeats 2000000 in
theorem restrictT (v i : Nat) (hv : v ≤ 8) (hi : i < v) (to : Bool) (w : World) {B1 : Nat} {n : Value} {gn : Nat → Bool} (hn : Tab w B1 n (2 ^ v) gn) :
    Calls Try.prog 47 #[n, .int .i64 (i : Int), .bool to] w (GivesTab w (2 ^ v) (fun s => gn (withOf s i to))) := by
  obtain ⟨ti, hti, htz, hts, htb⟩ := info4
  have HTI := Lib.hid hti
  have HTZ := Lib.hid htz
  have HTS := Lib.hid hts
  have HTB := Lib.hid htb
  clear hti htz hts htb
  have hp8 := pow8 hv
  obtain ⟨bn, cn, rfl, ln, mn, fn⟩ := hn.form (Nat.two_pow_pos v)
  have FN := Lib.hid fn
  have WL := Lib.hid (fun k hk => withOf_lt (k := k) (i := i) (v := v) to hk hi)
  clear fn hn
  have k4 : (i : Int) ≤ 64 := by omega
  have hpi : 2 ^ i < 256 := show 2 ^ i < 2 ^ 8 from Nat.pow_lt_pow_right (by omega) (by omega)
  generalize 2 ^ v = N at *
  go_enter Try.func47, Try.ntmps47
  go_wp2_with fail
  go_loopw [7, 8, 9] (fun t i' _ wr => ∃ k : Nat, k ≤ N ∧ i' = .int .i64 k ∧ Tab wr w.heap.size t k (fun s => gn (withOf s i to)) ∧ Below w.heap.size w wr) (fun _ i' _ _ => N - (intOf i').toNat)
  case atStart => exact ⟨0, Nat.zero_le _, rfl, World.ownsRow_nil _ _ _ _, Below.refl _ _⟩
  case round =>
    obtain ⟨k, hk, rfl, hT, hb⟩ := hrel
    have HT := Lib.hid hT
    clear hT
    by_cases hlt : k < N
    · have hlt' : (k : Int) < (N : Int) := by omega
      have hin := WL.out k hlt
      have qn := (hb.cell (p := ⟨bn, withOf k i to, none⟩) ln).trans (FN.out _ hin)
      have hor8 : k ||| 2 ^ i < 2 ^ 8 := Nat.or_lt_two_pow (by omega) hpi
      have hle : 2 ^ i ≤ k ||| 2 ^ i := Nat.right_le_or
      obtain ⟨hwr, hor⟩ := or_pow hpi (show k < 256 by omega)
      cases to
      · have hw : withOf k i false = (k ||| 2 ^ i) - 2 ^ i := rfl
        rw [hw] at qn hin
        have HW := Lib.hid hw
        clear hw
        obtain ⟨s1, s2, s3⟩ := sub_pow hle hor8
        generalize hz : k ||| 2 ^ i = z at *
        generalize hy : z - 2 ^ i = y at *
        clear hz hy
        have hz1 : (y : Int) < (N : Int) := by omega
        go_wp2_with (at_builtin; refine wpList_append_lies _ rfl _ _ 37 rfl w.heap.size 4 ti _ 1 1 Try.underlying37 HTI.out HTZ.out HTS.out HTB.out rfl (by omega) _ k (rowOf (fun s => gn (withOf s i false)) k) rfl ?_ ⟨wr.heap.size, 0, none⟩ 1 1 [.bool _] rfl rfl (cell_one_new _ _ _) (one_bool _) (by omega) (by unfold maxLen; omega) (by omega) ?_ _ rfl ?_; exact (HT.out).alloc _; (have := hb.size; simp; omega); intro g cap w1 hown hgrow hat hlt1)
        go_roundw
        case rel => exact ⟨k + 1, by omega, by go_num, Tab.next _ (by rw [HW.out]) hown, below_grown hb HT.out hgrow⟩
        case measure => simp [intOf]; omega
      · have hw : withOf k i true = k ||| 2 ^ i := rfl
        rw [hw] at qn hin
        have HW := Lib.hid hw
        clear hw
        generalize hz : k ||| 2 ^ i = z at *
        clear hz
        have hz1 : (z : Int) < (N : Int) := by omega
        go_wp2_with (at_builtin; refine wpList_append_lies _ rfl _ _ 37 rfl w.heap.size 4 ti _ 1 1 Try.underlying37 HTI.out HTZ.out HTS.out HTB.out rfl (by omega) _ k (rowOf (fun s => gn (withOf s i true)) k) rfl ?_ ⟨wr.heap.size, 0, none⟩ 1 1 [.bool _] rfl rfl (cell_one_new _ _ _) (one_bool _) (by omega) (by unfold maxLen; omega) (by omega) ?_ _ rfl ?_; exact (HT.out).alloc _; (have := hb.size; simp; omega); intro g cap w1 hown hgrow hat hlt1)
        go_roundw
        case rel => exact ⟨k + 1, by omega, by go_num, Tab.next _ (by rw [HW.out]) hown, below_grown hb HT.out hgrow⟩
        case measure => simp [intOf]; omega
    · obtain rfl : k = N := by omega
      go_wp2_with fail
      go_ret
      exact ⟨_, rfl, HT.out, hb⟩
end Go.Proofs.Ythhcahojbgcihaa
