/- What is proved: which names the document says that a table hangs on. -/
import Derived.Test.YthhcahojbgcihaaR3
namespace Go.Proofs.Ythhcahojbgcihaa
open Go.RowKit Bd

/-- Below i all names that matter; of name i what the sets below k tell. -/
def OU (g : Nat → Bool) (N i k A : Nat) : Prop := A < 256 ∧ ∀ j, A.testBit j = true ↔ (j < i ∧ ∃ s, s < N ∧ g s ≠ g (s ^^^ 2 ^ j)) ∨ (j = i ∧ ∃ s, s < k ∧ g s ≠ g (s ^^^ 2 ^ i))

section
variable {g : Nat → Bool} {N i k A : Nat}
theorem OU.start : OU g N 0 0 0 := ⟨by omega, fun j => by
  simp only [Nat.zero_testBit, Bool.false_eq_true, false_iff]
  rintro (⟨h, _⟩ | ⟨_, s, h, _⟩) <;> omega⟩
theorem OU.yes (h : OU g N i k A) (hi : i < 8) (hk : g k ≠ g (k ^^^ 2 ^ i)) : OU g N i (k + 1) (A ||| 2 ^ i) := by
  have hp : 2 ^ i < 2 ^ 8 := Nat.pow_lt_pow_right (by omega) hi
  refine ⟨Nat.or_lt_two_pow (n := 8) h.1 hp, fun j => ?_⟩
  rw [Nat.testBit_or, Bool.or_eq_true, h.2 j, Nat.testBit_two_pow, decide_eq_true_iff]
  constructor
  · rintro ((h1 | ⟨e, s, h1, h2⟩) | h1)
    · exact .inl h1
    · exact .inr ⟨e, s, by omega, h2⟩
    · exact .inr ⟨h1.symm, k, by omega, hk⟩
  · rintro (h1 | ⟨e, _⟩)
    · exact .inl (.inl h1)
    · exact .inr e.symm
theorem OU.no (h : OU g N i k A) (hk : g k = g (k ^^^ 2 ^ i)) : OU g N i (k + 1) A := by
  refine ⟨h.1, fun j => (h.2 j).trans ?_⟩
  constructor
  · rintro (h1 | ⟨e, s, h1, h2⟩)
    · exact .inl h1
    · exact .inr ⟨e, s, by omega, h2⟩
  · rintro (h1 | ⟨e, s, h1, h2⟩)
    · exact .inl h1
    · refine .inr ⟨e, s, ?_, h2⟩
      by_cases e' : s = k
      · subst e'; exact (h2 hk).elim
      · omega
theorem OU.next (h : OU g N i N A) : OU g N (i + 1) 0 A := by
  refine ⟨h.1, fun j => (h.2 j).trans ?_⟩
  constructor
  · rintro (⟨h1, h2⟩ | ⟨rfl, h2⟩)
    · exact .inl ⟨by omega, h2⟩
    · exact .inl ⟨by omega, h2⟩
  · rintro (⟨h1, h2⟩ | ⟨_, s, h1, _⟩)
    · by_cases e : j = i
      · subst e; exact .inr ⟨rfl, h2⟩
      · exact .inl ⟨by omega, h2⟩
    · omega
end

theorem xor_pow {q n : Nat} (hn : 2 ^ n < 256) (hq : q < 256) : Go.bits .xor .i64 (q : Int) (2 ^ n) = ((q ^^^ 2 ^ n : Nat) : Int) := by
  have e : ((2 : Int) ^ n) = ((2 ^ n : Nat) : Int) := by simp
  rw [e]
  generalize 2 ^ n = b at hn ⊢
  have hx : q ^^^ b < 2 ^ 8 := Nat.xor_lt_two_pow (by omega) (by omega)
  have ea : (BitVec.ofInt 64 (q : Int)).toNat = q := by rw [BitVec.ofInt_natCast, BitVec.toNat_ofNat]; exact Nat.mod_eq_of_lt (by omega)
  have eb : (BitVec.ofInt 64 (b : Int)).toNat = b := by rw [BitVec.ofInt_natCast, BitVec.toNat_ofNat]; exact Nat.mod_eq_of_lt (by omega)
  show IntKind.i64.wrap ((BitVec.ofInt 64 (q : Int) ^^^ BitVec.ofInt 64 (b : Int)).toNat : Int) = _
  rw [BitVec.toNat_xor, ea, eb]
  exact wrapped _ (by omega)

def OnlyT (g : Nat → Bool) (v : Nat) (w : World) (e : Ending) (w' : World) : Prop := ∃ A : Nat, OU g (2 ^ v) v 0 A ∧ e = .returned (.int .i64 (A : Int)) ∧ Below w.heap.size w w'

set_option maxHeartbeats 2000000 in
theorem onlyT (v : Nat) (hv : v ≤ 8) (w : World) {B : Nat} {t : Value} {g : Nat → Bool} (ht : Tab w B t (2 ^ v) g) :
    Calls Try.prog 18 #[t] w (OnlyT g v w) := by
  obtain ⟨b, c, rfl, l, mc, f⟩ := ht.form (Nat.two_pow_pos v)
  have F := Lib.hid f
  clear f ht
  have hp8 := pow8 hv
  unfold OnlyT
  have HX := Lib.hid (fun (k i : Nat) (hk : k < 2 ^ v) (hi : i < v) => (Nat.xor_lt_two_pow hk (Nat.pow_lt_pow_right (by omega) hi) : k ^^^ 2 ^ i < 2 ^ v))
  have HL := Lib.hid (fun (i : Nat) => (Nat.pow_lt_pow_iff_right (a := 2) (n := i) (m := v) (by omega)))
  generalize hN : 2 ^ v = N at *
  have HN := Lib.hid hN
  clear hN
  go_enter Try.func18, Try.ntmps18
  go_wp2_with fail
  go_loopw [3, 4, 5] (fun o i' _ wr => ∃ i A : Nat, i ≤ v ∧ OU g N i 0 A ∧ i' = .int .i64 i ∧ o = .int .i64 A ∧ Below w.heap.size w wr) (fun _ i' _ _ => v - (intOf i').toNat)
  case atStart => exact ⟨0, 0, Nat.zero_le _, OU.start, rfl, rfl, Below.refl _ _⟩
  case round =>
    obtain ⟨i, A, hi, hO, rfl, rfl, hb⟩ := hrel
    have ki : (i : Int) ≤ 64 := by omega
    have hpi8 : 2 ^ i ≤ 256 := pow8 (show i ≤ 8 by omega)
    have hpi : ((2 : Int) ^ i) = ((2 ^ i : Nat) : Int) := by simp
    have hwr : IntKind.i64.wrap ((2 : Int) ^ i) = 2 ^ i := by rw [hpi]; exact wrapped _ (by omega)
    by_cases hlt : i < v
    · have hlt2 : 2 ^ i < N := (HL.out i).2 hlt
      have hlt' : decide ((2 : Int) ^ i < (N : Int)) = true := by rw [hpi]; simp; omega
      clear hpi
      have hpi9 : 2 ^ i < 256 := by omega
      go_wp2_with fail
      go_loopw [3, 5] (fun o k' w2 => ∃ k A' : Nat, k ≤ N ∧ OU g N i k A' ∧ k' = .int .i64 k ∧ o = .int .i64 A' ∧ Below w.heap.size w w2) (fun _ k' _ => N - (intOf k').toNat)
      case atStart => exact ⟨0, A, Nat.zero_le _, hO, rfl, rfl, hb⟩
      case round =>
        obtain ⟨k, A', hk, hO', rfl, rfl, hb'⟩ := hrel
        by_cases hkl : k < N
        · have hkl' : (k : Int) < (N : Int) := by omega
          have hxl := HX.out k i hkl hlt
          have hxe := xor_pow hpi9 (show k < 256 by omega)
          obtain ⟨_, hoe⟩ := or_pow hpi9 hO'.1
          have q1 := (hb'.cell (p := ⟨b, k, none⟩) l).trans (F.out k hkl)
          have q2 := (hb'.cell (p := ⟨b, k ^^^ 2 ^ i, none⟩) l).trans (F.out _ hxl)
          have yes := fun hne => hO'.yes (show i < 8 by omega) hne
          have no := fun he => hO'.no he
          generalize hz : g k = z at *
          generalize hy : g (k ^^^ 2 ^ i) = y at *
          have YES := Lib.hid yes
          have NO := Lib.hid no
          clear hz hy yes no
          generalize k ^^^ 2 ^ i = x at *
          have hxl' : (x : Int) < (N : Int) := by omega
          cases z <;> cases y
          · go_wp2_with fail
            go_quiet (fail)
            go_wp2_with fail
            go_roundw
            case rel => exact ⟨k + 1, A', by omega, NO.out (by simp), by go_num, rfl, below_drewN hb' _⟩
            case measure => simp [intOf]; omega
          · go_wp2_with fail
            go_quiet (fail)
            go_wp2_with fail
            go_roundw
            case rel => exact ⟨k + 1, _, by omega, YES.out (by simp), by go_num, rfl, below_drewN hb' _⟩
            case measure => simp [intOf]; omega
          · go_wp2_with fail
            go_quiet (fail)
            go_wp2_with fail
            go_roundw
            case rel => exact ⟨k + 1, _, by omega, YES.out (by simp), by go_num, rfl, below_drewN hb' _⟩
            case measure => simp [intOf]; omega
          · go_wp2_with fail
            go_quiet (fail)
            go_wp2_with fail
            go_roundw
            case rel => exact ⟨k + 1, A', by omega, NO.out (by simp), by go_num, rfl, below_drewN hb' _⟩
            case measure => simp [intOf]; omega
        · obtain rfl : k = N := by omega
          have hN' := hO'.next
          have HNX := Lib.hid hN'
          clear hN' hO hO'
          go_wp2_with fail
          go_roundw
          case rel => exact ⟨i + 1, A', by omega, HNX.out, by go_num, rfl, hb'⟩
          case measure => simp [intOf]; omega
    · have hlt' : decide ((2 : Int) ^ i < (N : Int)) = false := by
        have : ¬ 2 ^ i < N := fun h => hlt ((HL.out i).1 h)
        rw [hpi]; simp; omega
      clear hpi
      go_wp2_with fail
      go_ret
      obtain rfl : i = v := by omega
      exact ⟨A, hO, rfl, hb⟩
end Go.Proofs.Ythhcahojbgcihaa
