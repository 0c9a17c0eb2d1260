/- What is proved: what the document's own number and quoted tell of a text at a place. -/
import Derived.Test.YtlkcmegjbdibcaaDoorR1
import Derived.Deep.DeepCutAuto
namespace Go.Proofs.YtlkcmegjbdibcaaDoor
open Go.RowKit Go.Shelf

theorem expo_cons (s : ByteArray) (k : Nat) (h : k + 1 < s.size) : expo (s.data.toList.drop k) = (Lx.isE s[k] && Lx.isSg s[k + 1]) := by
  rw [drop_at s k (by omega), drop_at s (k + 1) h]; rfl
theorem expo_last (s : ByteArray) (k : Nat) (h : ¬ k + 1 < s.size) : expo (s.data.toList.drop k) = false := by
  have hl : (s.data.toList.drop k).length < 2 := by rw [List.length_drop, size_list]; omega
  match s.data.toList.drop k, hl with
  | [], _ => rfl
  | [c], _ => rfl
theorem isE_letter (c : UInt8) (h : Lx.isE c = true) : Lx.letter c = true := by
  rw [isE_int] at h
  rw [letter_int]
  simp at h ⊢
  omega

/-- Does a sign stand behind a place? -/
def sgAt (s : ByteArray) (k : Nat) : Bool := if h : k + 1 < s.size then Lx.isSg s[k + 1] else false
theorem expo_sg (s : ByteArray) (k : Nat) (h : k < s.size) : expo (s.data.toList.drop k) = (Lx.isE s[k] && sgAt s k) := by
  unfold sgAt
  by_cases h2 : k + 1 < s.size
  · rw [dif_pos h2, expo_cons s k h2]
  · rw [dif_neg h2, expo_last s k h2, Bool.and_false]
theorem sg_cases (s : ByteArray) (k : Nat) : (sgAt s k = false ∧ ¬ k + 1 < s.size) ∨ (sgAt s k = true ∧ ∃ h : k + 1 < s.size, ((s[k + 1].toNat : Int) == 43) = true) ∨
    (sgAt s k = true ∧ ∃ h : k + 1 < s.size, ((s[k + 1].toNat : Int) == 43) = false ∧ ((s[k + 1].toNat : Int) == 45) = true) ∨ (sgAt s k = false ∧ ∃ h : k + 1 < s.size, ((s[k + 1].toNat : Int) == 43) = false ∧ ((s[k + 1].toNat : Int) == 45) = false) := by
  unfold sgAt
  by_cases h2 : k + 1 < s.size
  · rw [dif_pos h2]
    have hsg := isSg_int s[k + 1]
    rw [hsg]
    cases h3 : ((s[k + 1].toNat : Int) == 43) with
    | true => exact .inr (.inl ⟨rfl, h2, h3⟩)
    | false =>
      cases h4 : ((s[k + 1].toNat : Int) == 45) with
      | true => exact .inr (.inr (.inl ⟨rfl, h2, h3, h4⟩))
      | false => exact .inr (.inr (.inr ⟨rfl, h2, h3, h4⟩))
  · rw [dif_neg h2]
    exact .inl ⟨rfl, h2⟩

theorem isE_cases (c : UInt8) (h : Lx.isE c = true) : ((c.toNat : Int) == 101) = true ∨ (((c.toNat : Int) == 101) = false ∧ ((c.toNat : Int) == 69) = true) ∨ (((c.toNat : Int) == 101) = false ∧ ((c.toNat : Int) == 69) = false ∧ ((c.toNat : Int) == 112) = true) ∨
    (((c.toNat : Int) == 101) = false ∧ ((c.toNat : Int) == 69) = false ∧ ((c.toNat : Int) == 112) = false ∧ ((c.toNat : Int) == 80) = true) := by
  rw [isE_int] at h
  revert h
  cases ((c.toNat : Int) == 101) <;> cases ((c.toNat : Int) == 69) <;> cases ((c.toNat : Int) == 112) <;> cases ((c.toNat : Int) == 80) <;> simp
theorem isE_none (c : UInt8) (h : Lx.isE c = false) : ((c.toNat : Int) == 101) = false ∧ ((c.toNat : Int) == 69) = false ∧ ((c.toNat : Int) == 112) = false ∧ ((c.toNat : Int) == 80) = false := by
  rw [isE_int] at h
  revert h
  cases ((c.toNat : Int) == 101) <;> cases ((c.toNat : Int) == 69) <;> cases ((c.toNat : Int) == 112) <;> cases ((c.toNat : Int) == 80) <;> simp
theorem numc_cases (c : UInt8) : (Lx.numc c = true ∧ (Lx.letter c = true ∨ (Lx.letter c = false ∧ Lx.digit c = true) ∨ (Lx.letter c = false ∧ Lx.digit c = false ∧ ((c.toNat : Int) == 46) = true))) ∨ (Lx.numc c = false ∧ Lx.letter c = false ∧ Lx.digit c = false ∧ ((c.toNat : Int) == 46) = false) := by
  rw [numc_parts]
  cases Lx.letter c <;> cases Lx.digit c <;> cases ((c.toNat : Int) == 46) <;> simp

/-- The round of number, from a place on: what it leaves is told. -/
theorem num_step (s : ByteArray) (i k R : Nat) (hk : i + k < s.size) (he : R = k + Lx.numRest (s.data.toList.drop (i + k))) :
    (expo (s.data.toList.drop (i + k)) = true → i + k + 2 ≤ s.size ∧ R = (k + 2) + Lx.numRest (s.data.toList.drop (i + (k + 2)))) ∧
    (expo (s.data.toList.drop (i + k)) = false → Lx.numc s[i + k] = true → R = (k + 1) + Lx.numRest (s.data.toList.drop (i + (k + 1)))) ∧
    (expo (s.data.toList.drop (i + k)) = false → Lx.numc s[i + k] = false → R = k) := by
  refine ⟨fun hx => ?_, fun hx hc => ?_, fun hx hc => ?_⟩
  · obtain ⟨h2, hn⟩ := num_two _ hx
    rw [List.length_drop, size_list] at h2
    rw [List.drop_drop] at hn
    refine ⟨by omega, ?_⟩
    rw [he, hn, show i + (k + 2) = i + k + 2 by omega]; omega
  · rw [drop_at s (i + k) hk] at hx he
    rw [he, num_one _ _ hx hc, show i + (k + 1) = i + k + 1 by omega]; omega
  · rw [drop_at s (i + k) hk] at hx he
    rw [he, num_no _ _ hx hc]; rfl

set_option maxHeartbeats 8000000 in
set_option maxRecDepth 100000 in
theorem rnumber_any (s : ByteArray) (i : Nat) (hs : s.size ≤ 4000000000) (hi : i < s.size) (w : World) :
    Calls Tryd.prog 62 #[.string s, .int .i64 i] w fun e w' => e = .returned (.int .i64 (Lx.numLen (s.data.toList.drop i))) ∧ w = w' := by
  have hd := drop_at s i hi
  have hnl := Lx.numLen_cons s[i] (s.data.toList.drop (i + 1))
  rw [← hd, u8_beq, show ((46 : UInt8).toNat : Int) = 46 from rfl] at hnl
  have hyes : ∀ h1 : i + 1 < s.size, Lx.headDigit (s.data.toList.drop (i + 1)) = Lx.digit s[i + 1] := fun h1 => by rw [drop_at s (i + 1) h1]; rfl
  have hno : ¬ i + 1 < s.size → Lx.headDigit (s.data.toList.drop (i + 1)) = false := fun h1 => by rw [drop_end s (i + 1) (by omega)]; rfl
  obtain ⟨R, hR⟩ : ∃ R, R = Lx.numLen (s.data.toList.drop i) := ⟨_, rfl⟩
  rw [← hR] at hnl ⊢
  clear hR hd
  by_cases hN : (Lx.digit s[i] || (((s[i].toNat : Int) == 46) && Lx.headDigit (s.data.toList.drop (i + 1)))) = true
  · rw [if_pos hN] at hnl
    have hcase : Lx.digit s[i] = true ∨ (Lx.digit s[i] = false ∧ ((s[i].toNat : Int) == 46) = true ∧ ∃ h : i + 1 < s.size, Lx.digit s[i + 1] = true) := by
      cases hD : Lx.digit s[i] with
      | true => exact .inl rfl
      | false =>
        rw [hD, Bool.false_or, Bool.and_eq_true] at hN
        refine .inr ⟨rfl, hN.1, ?_⟩
        by_cases h1 : i + 1 < s.size
        · exact ⟨h1, by rw [← hyes h1]; exact hN.2⟩
        · have := hN.2; rw [hno h1] at this; cases this
    have HR := Lib.hid hnl
    have HC := Lib.hid hcase
    obtain ⟨D, hD⟩ : ∃ D, D = Lx.digit s[i] := ⟨_, rfl⟩
    have HD := Lib.hid hD
    clear hN hyes hno hnl hcase hD
    go_enter Tryd.func62, Tryd.ntmps62
    go_upto_region 2 with (go_at_call 73; refine (rdigit_any _ _).mono ?_; rintro e w' ⟨rfl, rfl⟩; rw [← HD.out])
    go_cut [35] (fun s35 wx => s35 = .bool false ∧ wx = w)
    case first =>
      rcases HC.out with h1 | ⟨h1, h2, h3, h4⟩
      all_goals
        obtain rfl := HD.out.trans h1
        clear h1
        go_wp2_with (go_at_call 73; refine (rdigit_any _ _).mono ?_; rintro e w' ⟨rfl, rfl⟩)
        go_meet
        exact ⟨rfl, rfl⟩
    case rest =>
      obtain ⟨rfl, rfl⟩ := hcut
      go_wp2_with fail
      go_loop [6] (fun n => ∃ k : Nat, n = .int .i64 k ∧ 1 ≤ k ∧ i + k ≤ s.size ∧ R = k + Lx.numRest (s.data.toList.drop (i + k))) (fun n => s.size - (intOf n).toNat)
      case atStart => exact ⟨1, rfl, Nat.le_refl _, by omega, HR.out⟩
      case round =>
        obtain ⟨k, rfl, hk1, hk, he⟩ := hrel
        by_cases hlt : i + k < s.size
        · obtain ⟨q1, q2, q3⟩ := num_step s i k R hlt he
          have HQ1 := Lib.hid q1
          have HQ2 := Lib.hid q2
          have HQ3 := Lib.hid q3
          obtain ⟨SG, hSG⟩ : ∃ SG, SG = sgAt s (i + k) := ⟨_, rfl⟩
          obtain ⟨X, hX⟩ : ∃ X, X = expo (s.data.toList.drop (i + k)) := ⟨_, rfl⟩
          have hXE : X = (Lx.isE s[i + k] && SG) := by rw [hX, hSG, expo_sg s (i + k) hlt]
          have HX := Lib.hid hX
          have HSG := Lib.hid hSG
          have HXE := Lib.hid hXE
          clear q1 q2 q3 he hX hSG hXE
          go_upto_region 7 with (fail)
          go_cut [8] (fun s8 wx => s8 = .bool SG ∧ wx = wc)
          case first =>
            rcases sg_cases s (i + k) with ⟨x0, x1⟩ | ⟨x0, x1, x2⟩ | ⟨x0, x1, x2, x3⟩ | ⟨x0, x1, x2, x3⟩
            all_goals
              rw [← HSG.out] at x0
              have HX0 := Lib.hid x0
              clear x0
              go_wp2_with fail
              go_meet
              exact ⟨by rw [HX0.out], rfl⟩
          case rest =>
            obtain ⟨rfl, rfl⟩ := hcut
            go_upto_region 8 with (fail)
            go_cut [88] (fun s88 wx => s88 = .bool X ∧ wx = wc)
            case first =>
              have hxe := HXE.out
              cases hE : Lx.isE s[i + k] with
              | true =>
                rw [hE, Bool.true_and] at hxe
                have HH := Lib.hid hxe
                rcases isE_cases _ hE with y1 | ⟨y1, y2⟩ | ⟨y1, y2, y3⟩ | ⟨y1, y2, y3, y4⟩
                all_goals
                  clear hE hxe
                  go_wp2_with fail
                  go_meet
                  exact ⟨by rw [HH.out], rfl⟩
              | false =>
                rw [hE, Bool.false_and] at hxe
                have HH := Lib.hid hxe
                obtain ⟨y1, y2, y3, y4⟩ := isE_none _ hE
                clear hE hxe
                go_wp2_with fail
                go_meet
                exact ⟨by rw [HH.out], rfl⟩
            case rest =>
              obtain ⟨rfl, rfl⟩ := hcut
              cases hXX : X with
              | true =>
                have HY := Lib.hid (HQ1.out (by rw [← HX.out]; exact hXX))
                clear hXX
                go_wp2_with fail
                go_round
                case rel => exact ⟨k + 2, by go_num, by omega, by have := HY.out.1; omega, HY.out.2⟩
                case measure => simp [intOf]; omega
              | false =>
                have HXX := Lib.hid (HX.out.symm.trans hXX)
                clear hXX
                rcases numc_cases s[i + k] with ⟨y0, y1 | ⟨y1, y2⟩ | ⟨y1, y2, y3⟩⟩ | ⟨y0, y1, y2, y3⟩
                · have HY := Lib.hid (HQ2.out HXX.out y0)
                  clear y0
                  go_wp2_with (first | (go_at_call 72; refine (rletter_any _ _).mono ?_; rintro e w' ⟨rfl, rfl⟩) | (go_at_call 73; refine (rdigit_any _ _).mono ?_; rintro e w' ⟨rfl, rfl⟩))
                  go_round
                  case rel => exact ⟨k + 1, by go_num, by omega, by omega, HY.out⟩
                  case measure => simp [intOf]; omega
                · have HY := Lib.hid (HQ2.out HXX.out y0)
                  clear y0
                  go_wp2_with (first | (go_at_call 72; refine (rletter_any _ _).mono ?_; rintro e w' ⟨rfl, rfl⟩) | (go_at_call 73; refine (rdigit_any _ _).mono ?_; rintro e w' ⟨rfl, rfl⟩))
                  go_round
                  case rel => exact ⟨k + 1, by go_num, by omega, by omega, HY.out⟩
                  case measure => simp [intOf]; omega
                · have HY := Lib.hid (HQ2.out HXX.out y0)
                  have y4 : ((s[i + k].toNat : Int) != 46) = false := by simp [bne, y3]
                  clear y0
                  go_wp2_with (first | (go_at_call 72; refine (rletter_any _ _).mono ?_; rintro e w' ⟨rfl, rfl⟩) | (go_at_call 73; refine (rdigit_any _ _).mono ?_; rintro e w' ⟨rfl, rfl⟩))
                  go_round
                  case rel => exact ⟨k + 1, by go_num, by omega, by omega, HY.out⟩
                  case measure => simp [intOf]; omega
                · have HY := Lib.hid (HQ3.out HXX.out y0)
                  have y4 : ((s[i + k].toNat : Int) != 46) = true := by simp [bne, y3]
                  clear y0
                  go_wp2_with (first | (go_at_call 72; refine (rletter_any _ _).mono ?_; rintro e w' ⟨rfl, rfl⟩) | (go_at_call 73; refine (rdigit_any _ _).mono ?_; rintro e w' ⟨rfl, rfl⟩))
                  go_ret
                  exact ⟨ret_int (by rw [HY.out]), rfl⟩
        · have HE := Lib.hid he
          clear he
          go_wp2_with fail
          go_ret
          exact ⟨ret_int (by rw [HE.out, drop_end s (i + k) (by omega)]; simp [Lx.numRest]), rfl⟩
  · rw [if_neg hN] at hnl
    subst hnl
    have hcase : (Lx.digit s[i] = false ∧ ((s[i].toNat : Int) == 46) = false) ∨ (Lx.digit s[i] = false ∧ ((s[i].toNat : Int) == 46) = true ∧ ¬ i + 1 < s.size) ∨ (Lx.digit s[i] = false ∧ ((s[i].toNat : Int) == 46) = true ∧ ∃ h : i + 1 < s.size, Lx.digit s[i + 1] = false) := by
      cases hD : Lx.digit s[i] with
      | true => rw [hD] at hN; simp at hN
      | false =>
        rw [hD, Bool.false_or] at hN
        cases h46 : ((s[i].toNat : Int) == 46) with
        | false => exact .inl ⟨rfl, rfl⟩
        | true =>
          rw [h46, Bool.true_and] at hN
          by_cases h1 : i + 1 < s.size
          · rw [hyes h1] at hN
            exact .inr (.inr ⟨rfl, rfl, h1, by simpa using hN⟩)
          · exact .inr (.inl ⟨rfl, rfl, h1⟩)
    clear hN hyes hno
    rcases hcase with ⟨h1, h2⟩ | ⟨h1, h2, h3⟩ | ⟨h1, h2, h3, h4⟩
    all_goals
      go_enter Tryd.func62, Tryd.ntmps62
      go_wp2_with (go_at_call 73; refine (rdigit_any _ _).mono ?_; rintro e w' ⟨rfl, rfl⟩)
      go_ret
      exact ⟨rfl, rfl⟩
end Go.Proofs.YtlkcmegjbdibcaaDoor
