/- What is proved: what letter, digit, name, exponent, number and closed tell of a text. -/
import Derived.Test.YtlkcmegjbdibcaaDoorRefJ
namespace Go.Proofs.YtlkcmegjbdibcaaDoor
open Go.RowKit Go.Shelf

theorem ret_bool {a b : Bool} (h : a = b) : Ending.returned (.bool a) = .returned (.bool b) := by rw [h]
theorem ret_int {k : IntKind} {a b : Int} (h : a = b) : Ending.returned (.int k a) = .returned (.int k b) := by rw [h]
theorem u8_le (a b : UInt8) : (a ≤ b) ↔ (a.toNat : Int) ≤ b.toNat := by rw [UInt8.le_iff_toNat_le]; omega
theorem u8_beq (a b : UInt8) : (a == b) = ((a.toNat : Int) == (b.toNat : Int)) := by
  rw [Bool.eq_iff_iff]
  simp only [beq_iff_eq]
  constructor
  · intro h; rw [h]
  · intro h; exact UInt8.toNat_inj.1 (by omega)
theorem letter_int (c : UInt8) : Lx.letter c = ((decide (97 ≤ (c.toNat : Int)) && decide ((c.toNat : Int) ≤ 122)) || (decide (65 ≤ (c.toNat : Int)) && decide ((c.toNat : Int) ≤ 90)) || ((c.toNat : Int) == 95)) := by
  unfold Lx.letter
  rw [u8_beq]
  simp only [u8_le]
  rfl
theorem digit_int (c : UInt8) : Lx.digit c = (decide (48 ≤ (c.toNat : Int)) && decide ((c.toNat : Int) ≤ 57)) := by
  unfold Lx.digit
  simp only [u8_le]
  rfl

set_option maxHeartbeats 1000000 in
theorem letter_any (c : UInt8) (w : World) : Calls Tryd.prog 39 #[.int .u8 c.toNat] w fun e w' => e = .returned (.bool (Lx.letter c)) ∧ w = w' := by
  have hl := letter_int c
  obtain ⟨b, hb⟩ : ∃ b, b = Lx.letter c := ⟨_, rfl⟩
  rw [← hb] at hl ⊢
  obtain ⟨n, hn⟩ : ∃ n : Int, n = c.toNat := ⟨_, rfl⟩
  rw [← hn] at hl ⊢
  have HL := Lib.hid hl
  clear hl hn hb
  go_enter Tryd.func39, Tryd.ntmps39
  go_wp2_with fail
  all_goals
    go_ret
    refine ⟨ret_bool ?_, rfl⟩
    rw [HL.out, Bool.eq_iff_iff]
    simp
    try omega

set_option maxHeartbeats 1000000 in
theorem digit_any (c : UInt8) (w : World) : Calls Tryd.prog 41 #[.int .u8 c.toNat] w fun e w' => e = .returned (.bool (Lx.digit c)) ∧ w = w' := by
  have hl := digit_int c
  obtain ⟨b, hb⟩ : ∃ b, b = Lx.digit c := ⟨_, rfl⟩
  rw [← hb] at hl ⊢
  obtain ⟨n, hn⟩ : ∃ n : Int, n = c.toNat := ⟨_, rfl⟩
  rw [← hn] at hl ⊢
  have HL := Lib.hid hl
  clear hl hn hb
  go_enter Tryd.func41, Tryd.ntmps41
  go_wp2_with fail
  all_goals
    go_ret
    refine ⟨ret_bool ?_, rfl⟩
    rw [HL.out, Bool.eq_iff_iff]
    simp
    try omega

set_option maxHeartbeats 1000000 in
theorem rletter_any (c : UInt8) (w : World) : Calls Tryd.prog 72 #[.int .u8 c.toNat] w fun e w' => e = .returned (.bool (Lx.letter c)) ∧ w = w' := by
  have hl := letter_int c
  obtain ⟨b, hb⟩ : ∃ b, b = Lx.letter c := ⟨_, rfl⟩
  rw [← hb] at hl ⊢
  obtain ⟨n, hn⟩ : ∃ n : Int, n = c.toNat := ⟨_, rfl⟩
  rw [← hn] at hl ⊢
  have HL := Lib.hid hl
  clear hl hn hb
  go_enter Tryd.func72, Tryd.ntmps72
  go_wp2_with fail
  all_goals
    go_ret
    refine ⟨ret_bool ?_, rfl⟩
    rw [HL.out, Bool.eq_iff_iff]
    simp
    try omega

set_option maxHeartbeats 1000000 in
theorem rdigit_any (c : UInt8) (w : World) : Calls Tryd.prog 73 #[.int .u8 c.toNat] w fun e w' => e = .returned (.bool (Lx.digit c)) ∧ w = w' := by
  have hl := digit_int c
  obtain ⟨b, hb⟩ : ∃ b, b = Lx.digit c := ⟨_, rfl⟩
  rw [← hb] at hl ⊢
  obtain ⟨n, hn⟩ : ∃ n : Int, n = c.toNat := ⟨_, rfl⟩
  rw [← hn] at hl ⊢
  have HL := Lib.hid hl
  clear hl hn hb
  go_enter Tryd.func73, Tryd.ntmps73
  go_wp2_with fail
  all_goals
    go_ret
    refine ⟨ret_bool ?_, rfl⟩
    rw [HL.out, Bool.eq_iff_iff]
    simp
    try omega

theorem drop_at (s : ByteArray) (k : Nat) (h : k < s.size) : s.data.toList.drop k = s[k] :: s.data.toList.drop (k + 1) := by
  rw [List.drop_eq_getElem_cons (by rw [size_list]; exact h)]; rfl
theorem drop_end (s : ByteArray) (k : Nat) (h : s.size ≤ k) : s.data.toList.drop k = [] := List.drop_eq_nil_of_le (by rw [size_list]; exact h)

theorem word_yes (c : UInt8) (r : List UInt8) (h : Lx.alnum c = true) : Lx.wordLen (c :: r) = 1 + Lx.wordLen r := by
  unfold Lx.wordLen; rw [List.takeWhile_cons, if_pos h, List.length_cons]; omega
theorem word_no (c : UInt8) (r : List UInt8) (h : Lx.alnum c = false) : Lx.wordLen (c :: r) = 0 := by
  unfold Lx.wordLen; rw [List.takeWhile_cons, if_neg (by rw [h]; simp)]; rfl

set_option maxHeartbeats 1000000 in
theorem name_any (s : ByteArray) (hs : s.size ≤ 4000000000) (w : World) : Calls Tryd.prog 40 #[.string s] w fun e w' => e = .returned (.int .i64 (Lx.wordLen s.data.toList)) ∧ w = w' := by
  go_enter Tryd.func40, Tryd.ntmps40
  go_wp2_with fail
  go_loop [3] (fun n => ∃ k : Nat, n = .int .i64 k ∧ k ≤ s.size ∧ Lx.wordLen s.data.toList = k + Lx.wordLen (s.data.toList.drop k)) (fun n => s.size - (intOf n).toNat)
  case atStart => exact ⟨0, rfl, Nat.zero_le _, by simp⟩
  case round =>
    obtain ⟨k, rfl, hk, he⟩ := hrel
    have HE := Lib.hid he
    clear he
    by_cases hlt : k < s.size
    · have hd := Lib.hid (drop_at s k hlt)
      cases hL : Lx.letter s[k] with
      | true =>
        go_wp2_with (go_at_call 39; refine (letter_any _ _).mono ?_; rintro e w' ⟨rfl, rfl⟩)
        go_round
        case rel => exact ⟨k + 1, by go_num, by omega, by rw [HE.out, hd.out, word_yes _ _ (by simp [Lx.alnum, hL])]; omega⟩
        case measure => simp [intOf]; omega
      | false =>
        cases hD : Lx.digit s[k] with
        | true =>
          go_wp2_with (first | (go_at_call 39; refine (letter_any _ _).mono ?_; rintro e w' ⟨rfl, rfl⟩) | (go_at_call 41; refine (digit_any _ _).mono ?_; rintro e w' ⟨rfl, rfl⟩))
          go_round
          case rel => exact ⟨k + 1, by go_num, by omega, by rw [HE.out, hd.out, word_yes _ _ (by simp [Lx.alnum, hD])]; omega⟩
          case measure => simp [intOf]; omega
        | false =>
          go_wp2_with (first | (go_at_call 39; refine (letter_any _ _).mono ?_; rintro e w' ⟨rfl, rfl⟩) | (go_at_call 41; refine (digit_any _ _).mono ?_; rintro e w' ⟨rfl, rfl⟩))
          go_ret
          refine ⟨ret_int ?_, rfl⟩
          rw [HE.out, hd.out, word_no _ _ (by simp [Lx.alnum, hL, hD])]; simp
    · go_wp2_with fail
      go_ret
      refine ⟨ret_int ?_, rfl⟩
      rw [HE.out, drop_end s k (by omega)]; simp [Lx.wordLen]

/-- Does a text begin with a letter that takes the sign behind it into a number? -/
def expo : List UInt8 → Bool
  | c :: d :: _ => Lx.isE c && Lx.isSg d
  | _ => false
theorem expo_at (s : ByteArray) (h : 1 < s.size) : expo s.data.toList = (Lx.isE s[0] && Lx.isSg s[1]) := by
  have h0 := drop_at s 0 (by omega)
  have h1 := drop_at s 1 (by omega)
  rw [List.drop_zero, h1] at h0
  rw [h0]; rfl
theorem expo_short (s : ByteArray) (h : s.size < 2) : expo s.data.toList = false := by
  have hl : s.data.toList.length < 2 := by rw [size_list]; exact h
  match s.data.toList, hl with
  | [], _ => rfl
  | [c], _ => rfl
theorem isE_int (c : UInt8) : Lx.isE c = (((c.toNat : Int) == 101) || ((c.toNat : Int) == 69) || ((c.toNat : Int) == 112) || ((c.toNat : Int) == 80)) := by
  unfold Lx.isE
  simp only [u8_beq]
  rfl
theorem isSg_int (c : UInt8) : Lx.isSg c = (((c.toNat : Int) == 43) || ((c.toNat : Int) == 45)) := by
  unfold Lx.isSg
  simp only [u8_beq]
  rfl

set_option maxHeartbeats 1000000 in
theorem exponent_any (s : ByteArray) (w : World) : Calls Tryd.prog 56 #[.string s] w fun e w' => e = .returned (.bool (expo s.data.toList)) ∧ w = w' := by
  by_cases h : 1 < s.size
  · have hx := expo_at s h
    rw [isE_int, isSg_int] at hx
    obtain ⟨b, hb⟩ : ∃ b, b = expo s.data.toList := ⟨_, rfl⟩
    rw [← hb] at hx ⊢
    have HL := Lib.hid hx
    have z0 : 0 < s.size := by omega
    clear hx hb
    go_enter Tryd.func56, Tryd.ntmps56
    go_wp2_with fail
    all_goals
      go_ret
      refine ⟨ret_bool ?_, rfl⟩
      rw [HL.out, Bool.eq_iff_iff]
      first | (simp [*]; done) | (simp; omega) | (simp_all; done) | (simp_all; omega)
  · have hx := expo_short s (by omega)
    have HL := Lib.hid hx
    clear hx
    go_enter Tryd.func56, Tryd.ntmps56
    go_wp2_with fail
    go_ret
    exact ⟨ret_bool HL.out.symm, rfl⟩

theorem numc_parts (c : UInt8) : Lx.numc c = (Lx.letter c || Lx.digit c || ((c.toNat : Int) == 46)) := by
  unfold Lx.numc
  rw [u8_beq]; rfl
theorem num_two (l : List UInt8) (h : expo l = true) : 2 ≤ l.length ∧ Lx.numRest l = 2 + Lx.numRest (l.drop 2) := by
  match l, h with
  | c :: d :: r, h =>
    have e : Lx.numRest (c :: d :: r) = if Lx.isE c && Lx.isSg d then 2 + Lx.numRest r else if Lx.numc c then 1 + Lx.numRest (d :: r) else 0 := rfl
    rw [e, if_pos (show (Lx.isE c && Lx.isSg d) = true from h)]
    exact ⟨by simp, rfl⟩
theorem num_one (c : UInt8) (r : List UInt8) (h : expo (c :: r) = false) (hc : Lx.numc c = true) : Lx.numRest (c :: r) = 1 + Lx.numRest r := by
  match r, h with
  | [], _ =>
    have e : Lx.numRest [c] = if Lx.numc c then 1 else 0 := rfl
    rw [e, if_pos hc]; rfl
  | d :: r, h =>
    have e : Lx.numRest (c :: d :: r) = if Lx.isE c && Lx.isSg d then 2 + Lx.numRest r else if Lx.numc c then 1 + Lx.numRest (d :: r) else 0 := rfl
    rw [e, if_neg (by rw [show (Lx.isE c && Lx.isSg d) = false from h]; simp), if_pos hc]
theorem num_no (c : UInt8) (r : List UInt8) (h : expo (c :: r) = false) (hc : Lx.numc c = false) : Lx.numRest (c :: r) = 0 := by
  match r, h with
  | [], _ =>
    have e : Lx.numRest [c] = if Lx.numc c then 1 else 0 := rfl
    rw [e, if_neg (by rw [hc]; simp)]
  | d :: r, h =>
    have e : Lx.numRest (c :: d :: r) = if Lx.isE c && Lx.isSg d then 2 + Lx.numRest r else if Lx.numc c then 1 + Lx.numRest (d :: r) else 0 := rfl
    rw [e, if_neg (by rw [show (Lx.isE c && Lx.isSg d) = false from h]; simp), if_neg (by rw [hc]; simp)]

set_option maxHeartbeats 2000000 in
theorem number_any (s : ByteArray) (hs : s.size ≤ 4000000000) (h0 : 0 < s.size) (w : World) : Calls Tryd.prog 42 #[.string s] w fun e w' => e = .returned (.int .i64 ((1 + Lx.numRest (s.data.toList.drop 1) : Nat) : Int)) ∧ w = w' := by
  obtain ⟨R, hR⟩ : ∃ R, R = 1 + Lx.numRest (s.data.toList.drop 1) := ⟨_, rfl⟩
  rw [← hR]
  have HR := Lib.hid hR
  clear hR
  go_enter Tryd.func42, Tryd.ntmps42
  go_wp2_with fail
  go_loop [3] (fun n => ∃ k : Nat, n = .int .i64 k ∧ 1 ≤ k ∧ k ≤ s.size ∧ R = k + Lx.numRest (s.data.toList.drop k)) (fun n => s.size - (intOf n).toNat)
  case atStart => exact ⟨1, rfl, Nat.le_refl _, h0, HR.out⟩
  case round =>
    obtain ⟨k, rfl, hk1, hk, he⟩ := hrel
    have HE := Lib.hid he
    clear he
    by_cases hlt : k < s.size
    · have hd := Lib.hid (drop_at s k hlt)
      cases hX : expo (s.data.toList.drop k) with
      | true =>
        obtain ⟨h2, hn⟩ := num_two _ hX
        rw [List.length_drop, size_list] at h2
        rw [List.drop_drop] at hn
        have HN := Lib.hid hn
        have HX := Lib.hid hX
        clear hn hX
        go_wp2_with fail
        refine (exponent_any _ _).mono ?_
        rintro e w' ⟨rfl, rfl⟩
        rw [Lib.extract_to_end, HX.out]
        go_wp2_with fail
        go_round
        case rel => exact ⟨k + 2, by go_num, by omega, by omega, by rw [HE.out, HN.out]; omega⟩
        case measure => simp [intOf]; omega
      | false =>
        have hX' := hX
        rw [hd.out] at hX'
        have HX' := Lib.hid hX'
        have HX := Lib.hid hX
        clear hX hX'
        have hnc := numc_parts s[k]
        cases hc : Lx.numc s[k] with
        | true =>
          rw [hc] at hnc
          have hcase : Lx.letter s[k] = true ∨ (Lx.letter s[k] = false ∧ Lx.digit s[k] = true) ∨ (Lx.letter s[k] = false ∧ Lx.digit s[k] = false ∧ ((s[k].toNat : Int) == 46) = true) := by
            cases h1 : Lx.letter s[k] with
            | true => exact .inl rfl
            | false =>
              cases h2 : Lx.digit s[k] with
              | true => exact .inr (.inl ⟨rfl, rfl⟩)
              | false => rw [h1, h2] at hnc; exact .inr (.inr ⟨rfl, rfl, by simpa using hnc.symm⟩)
          have HC := Lib.hid hc
          clear hnc hc
          rcases hcase with h1 | ⟨h1, h2⟩ | ⟨h1, h2, h3⟩
          all_goals
            go_wp2_with fail
            refine (exponent_any _ _).mono ?_
            rintro e w' ⟨rfl, rfl⟩
            rw [Lib.extract_to_end, HX.out]
            go_wp2_with (first | (go_at_call 39; refine (letter_any _ _).mono ?_; rintro e w' ⟨rfl, rfl⟩) | (go_at_call 41; refine (digit_any _ _).mono ?_; rintro e w' ⟨rfl, rfl⟩))
            go_round
            case rel => exact ⟨k + 1, by go_num, by omega, by omega, by rw [HE.out, hd.out, num_one _ _ HX'.out HC.out]; omega⟩
            case measure => simp [intOf]; omega
        | false =>
          rw [hc] at hnc
          have h1 : Lx.letter s[k] = false := by cases h : Lx.letter s[k] with | false => rfl | true => rw [h] at hnc; simp at hnc
          have h2 : Lx.digit s[k] = false := by cases h : Lx.digit s[k] with | false => rfl | true => rw [h] at hnc; simp at hnc
          have h3 : ((s[k].toNat : Int) == 46) = false := by rw [h1, h2] at hnc; simpa using hnc.symm
          have HC := Lib.hid hc
          clear hnc hc
          go_wp2_with fail
          refine (exponent_any _ _).mono ?_
          rintro e w' ⟨rfl, rfl⟩
          rw [Lib.extract_to_end, HX.out]
          go_wp2_with (first | (go_at_call 39; refine (letter_any _ _).mono ?_; rintro e w' ⟨rfl, rfl⟩) | (go_at_call 41; refine (digit_any _ _).mono ?_; rintro e w' ⟨rfl, rfl⟩))
          go_ret
          refine ⟨ret_int ?_, rfl⟩
          rw [HE.out, hd.out, num_no _ _ HX'.out HC.out]; simp
    · go_wp2_with fail
      go_ret
      refine ⟨ret_int ?_, rfl⟩
      rw [HE.out, drop_end s k (by omega)]; simp [Lx.numRest]

theorem qr_nl (q : UInt8) (r : List UInt8) : Lx.qr q (10 :: r) = none := by
  cases r with
  | nil => rfl
  | cons d r =>
    have e : Lx.qr q (10 :: d :: r) = if (10 : UInt8) = 10 then none else if (10 : UInt8) = q then some 1 else if (10 : UInt8) = 92 then (if d = 10 then none else (Lx.qr q r).map (· + 2)) else (Lx.qr q (d :: r)).map (· + 1) := rfl
    rw [e, if_pos rfl]
theorem qr_hit (q : UInt8) (r : List UInt8) (h : q ≠ 10) : Lx.qr q (q :: r) = some 1 := by
  cases r with
  | nil => simp [Lx.qr, h]
  | cons d r => simp [Lx.qr, h]
theorem qr_esc (q d : UInt8) (r : List UInt8) (hq : q ≠ 92) (hd : d ≠ 10) : Lx.qr q (92 :: d :: r) = (Lx.qr q r).map (· + 2) := by
  have e : Lx.qr q (92 :: d :: r) = if (92 : UInt8) = 10 then none else if (92 : UInt8) = q then some 1 else if (92 : UInt8) = 92 then (if d = 10 then none else (Lx.qr q r).map (· + 2)) else (Lx.qr q (d :: r)).map (· + 1) := rfl
  rw [e, if_neg (by decide), if_neg (fun h => hq h.symm), if_pos rfl, if_neg hd]
theorem qr_esc_nl (q : UInt8) (r : List UInt8) (hq : q ≠ 92) : Lx.qr q (92 :: 10 :: r) = none := by
  have e : Lx.qr q (92 :: 10 :: r) = if (92 : UInt8) = 10 then none else if (92 : UInt8) = q then some 1 else if (92 : UInt8) = 92 then (if (10 : UInt8) = 10 then none else (Lx.qr q r).map (· + 2)) else (Lx.qr q (10 :: r)).map (· + 1) := rfl
  rw [e, if_neg (by decide), if_neg (fun h => hq h.symm), if_pos rfl, if_pos rfl]
theorem qr_esc_end (q : UInt8) (hq : q ≠ 92) : Lx.qr q [92] = none := by
  have h : ¬ (92 : UInt8) = q := fun h => hq h.symm
  simp [Lx.qr, h]
theorem qr_on (q c : UInt8) (r : List UInt8) (h1 : c ≠ 10) (h2 : c ≠ q) (h3 : c ≠ 92) : Lx.qr q (c :: r) = (Lx.qr q r).map (· + 1) := by
  cases r with
  | nil => simp [Lx.qr, h1, h2]
  | cons d r => simp [Lx.qr, h1, h2, h3]
theorem upto_map (k j : Nat) (o : Option Nat) : Lx.upto k (o.map (· + j)) = Lx.upto (k + j) o := by
  cases o with
  | none => rfl
  | some m => simp [Lx.upto]; omega

/-- A byte that is none other, in the walk's words. -/
theorem u8_ne {a b : UInt8} (h : a ≠ b) : ((a.toNat : Int) == (b.toNat : Int)) = false := by
  rw [← u8_beq]; simpa using h
theorem u8_eq {a b : UInt8} (h : a = b) : ((a.toNat : Int) == (b.toNat : Int)) = true := by
  rw [h]; simp

set_option maxHeartbeats 2000000 in
theorem closed_any (s : ByteArray) (hs : s.size ≤ 4000000000) (h0 : 0 < s.size) (q : UInt8) (hq1 : q ≠ 10) (hq2 : q ≠ 92) (w : World) :
    Calls Tryd.prog 43 #[.string s, .int .u8 q.toNat] w fun e w' => e = .returned (.int .i64 (Lx.closedLen q s.data.toList)) ∧ w = w' := by
  have hd0 := drop_at s 0 h0
  rw [List.drop_zero] at hd0
  by_cases hq : s[0] = q
  · have hcl : Lx.closedLen q s.data.toList = Lx.upto 1 (Lx.qr q (s.data.toList.drop 1)) := by
      conv => lhs; rw [hd0]
      rw [Lx.closedLen_cons, if_pos hq]
    obtain ⟨R, hR⟩ : ∃ R, R = Lx.closedLen q s.data.toList := ⟨_, rfl⟩
    rw [← hR] at hcl ⊢
    have HR := Lib.hid hcl
    clear hR
    have t0 : ((s[0].toNat : Int) == (q.toNat : Int)) = true := u8_eq hq
    have t0' : ((s[0].toNat : Int) != (q.toNat : Int)) = false := by simp [bne, t0]
    clear hcl hd0 hq
    go_enter Tryd.func43, Tryd.ntmps43
    go_wp2_with fail
    go_loop [5] (fun n => ∃ k : Nat, n = .int .i64 k ∧ 1 ≤ k ∧ k ≤ s.size ∧ R = Lx.upto k (Lx.qr q (s.data.toList.drop k))) (fun n => s.size - (intOf n).toNat)
    case atStart => exact ⟨1, rfl, Nat.le_refl _, h0, HR.out⟩
    case round =>
      obtain ⟨k, rfl, hk1, hk, he⟩ := hrel
      have HE := Lib.hid he
      clear he t0 t0'
      by_cases hlt : k < s.size
      · have hd := Lib.hid (drop_at s k hlt)
        by_cases hnl : s[k] = 10
        · have t1 : ((s[k].toNat : Int) == 10) = true := u8_eq hnl
          have t2 : ((s[k].toNat : Int) != 10) = false := by simp [bne, t1]
          have HN := Lib.hid hnl
          clear hnl
          go_wp2_with fail
          go_ret
          refine ⟨ret_int ?_, rfl⟩
          rw [HE.out, hd.out, HN.out, qr_nl]; rfl
        · have t1 : ((s[k].toNat : Int) == 10) = false := u8_ne hnl
          have t2 : ((s[k].toNat : Int) != 10) = true := by simp [bne, t1]
          by_cases hqq : s[k] = q
          · have t3 : ((s[k].toNat : Int) == (q.toNat : Int)) = true := u8_eq hqq
            have HN := Lib.hid hqq
            clear hnl hqq
            go_wp2_with fail
            go_ret
            refine ⟨ret_int ?_, rfl⟩
            rw [HE.out, hd.out, HN.out, qr_hit q _ hq1]; simp [Lx.upto]
          · have t3 : ((s[k].toNat : Int) == (q.toNat : Int)) = false := u8_ne hqq
            by_cases hbs : s[k] = 92
            · have t4 : ((s[k].toNat : Int) == 92) = true := u8_eq hbs
              have HB := Lib.hid hbs
              clear hbs hnl hqq
              by_cases hl2 : k + 1 < s.size
              · have hd2 := Lib.hid (drop_at s (k + 1) hl2)
                by_cases hn2 : s[k + 1] = 10
                · have t5 : ((s[k + 1].toNat : Int) == 10) = true := u8_eq hn2
                  have t6 : ((s[k + 1].toNat : Int) != 10) = false := by simp [bne, t5]
                  have HN2 := Lib.hid hn2
                  clear hn2
                  go_wp2_with fail
                  go_round
                  case rel => exact ⟨k + 1, by go_num, by omega, by omega, by rw [HE.out, hd.out, HB.out, hd2.out, HN2.out, qr_esc_nl q _ hq2, qr_nl]; rfl⟩
                  case measure => simp [intOf]; omega
                · have t5 : ((s[k + 1].toNat : Int) == 10) = false := u8_ne hn2
                  have t6 : ((s[k + 1].toNat : Int) != 10) = true := by simp [bne, t5]
                  have HN2 := Lib.hid hn2
                  clear hn2
                  go_wp2_with fail
                  go_round
                  case rel => exact ⟨k + 2, by go_num, by omega, by omega, by rw [HE.out, hd.out, HB.out, hd2.out, qr_esc q _ _ hq2 HN2.out, upto_map]⟩
                  case measure => simp [intOf]; omega
              · have hd2 := Lib.hid (drop_end s (k + 1) (by omega))
                go_wp2_with fail
                go_round
                case rel => exact ⟨k + 1, by go_num, by omega, by omega, by rw [HE.out, hd.out, HB.out, hd2.out, qr_esc_end q hq2]; rfl⟩
                case measure => simp [intOf]; omega
            · have t4 : ((s[k].toNat : Int) == 92) = false := u8_ne hbs
              have HN := Lib.hid (And.intro hnl (And.intro hqq hbs))
              clear hnl hqq hbs
              go_wp2_with fail
              go_round
              case rel => exact ⟨k + 1, by go_num, by omega, by omega, by rw [HE.out, hd.out, qr_on q _ _ HN.out.1 HN.out.2.1 HN.out.2.2, upto_map]⟩
              case measure => simp [intOf]; omega
      · go_wp2_with fail
        go_ret
        refine ⟨ret_int ?_, rfl⟩
        rw [HE.out, drop_end s k (by omega)]; rfl
  · have hcl : Lx.closedLen q s.data.toList = 0 := by rw [hd0, Lx.closedLen_cons, if_neg hq]
    rw [hcl]
    have t0 : ((s[0].toNat : Int) == (q.toNat : Int)) = false := u8_ne hq
    have t0' : ((s[0].toNat : Int) != (q.toNat : Int)) = true := by simp [bne, t0]
    clear hcl hd0 hq
    go_enter Tryd.func43, Tryd.ntmps43
    go_wp2_with fail
    go_ret
    exact ⟨rfl, rfl⟩
end Go.Proofs.YtlkcmegjbdibcaaDoor
