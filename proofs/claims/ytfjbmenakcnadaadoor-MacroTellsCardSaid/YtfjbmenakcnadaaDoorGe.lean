/- What is proved: what comment, blank and first tell of a text. (and what stands with it) -/
import Derived.Test.YtfjbmenakcnadaaDoorGd
import Derived.Test.YtfjbmenakcnadaaDoorRows
import Derived.Test.YtfjbmenakcnadaaDoorTie
import Derived.Test.YtfjbmenakcnadaaDoorCards
import Derived.HandedShaped
import Derived.ProofKit
import Derived.Deep.Slices
import Derived.Deep.Fields
import Derived.OpenShut
import Derived.LaidMore
import Derived.Stop.Joined
import Derived.SevenTiedAt
import Derived.MakeChecks
import Derived.Deep.RegionHeld3
import Derived.Deep.AppendLies
import Derived.IntWalk

/- What is proved: what comment, blank and first tell of a text. -/
namespace Go.Proofs.YtfjbmenakcnadaaDoor
open Go.RowKit Go.Shelf

theorem indexByte_line (l : List UInt8) : (Lib.indexByte l 10 = -1 ∧ Lx.lineLen l = l.length) ∨ Lib.indexByte l 10 = (Lx.lineLen l : Nat) := by
  induction l with
  | nil => exact .inl ⟨rfl, rfl⟩
  | cons c r ih =>
    have e : Lib.indexByte (c :: r) 10 = if c == 10 then 0 else if Lib.indexByte r 10 == -1 then -1 else Lib.indexByte r 10 + 1 := rfl
    by_cases hc : c = 10
    · subst hc
      exact .inr (by rw [e]; simp [Lx.lineLen])
    · have hl : Lx.lineLen (c :: r) = Lx.lineLen r + 1 := by
        unfold Lx.lineLen
        rw [List.takeWhile_cons, if_pos (by simpa using hc)]; simp
      rw [e, if_neg (by simpa using hc), hl]
      rcases ih with ⟨h1, h2⟩ | h
      · exact .inl ⟨by rw [h1]; rfl, by rw [h2]; simp⟩
      · refine .inr ?_
        rw [h, if_neg (by simp)]
        omega
theorem index_clos : ∀ (l : List UInt8), (Lib.index l [42, 47] = -1 ∧ Lx.clos l = none) ∨ ∃ m : Nat, Lib.index l [42, 47] = m ∧ Lx.clos l = some m
  | [] => .inl ⟨rfl, rfl⟩
  | [c] => .inl ⟨by
      have e : Lib.index [c] [42, 47] = if [42, 47].isPrefixOf [c] then 0 else if Lib.index [] [42, 47] == -1 then -1 else Lib.index [] [42, 47] + 1 := rfl
      rw [e, if_neg (by simp [List.isPrefixOf])]; rfl, rfl⟩
  | c :: d :: r => by
    have ih := index_clos (d :: r)
    have e : Lib.index (c :: d :: r) [42, 47] = if [42, 47].isPrefixOf (c :: d :: r) then 0 else if Lib.index (d :: r) [42, 47] == -1 then -1 else Lib.index (d :: r) [42, 47] + 1 := rfl
    have e2 : Lx.clos (c :: d :: r) = if c = 42 ∧ d = 47 then some 0 else (Lx.clos (d :: r)).map (· + 1) := rfl
    have e3 : [42, 47].isPrefixOf (c :: d :: r) = decide (c = 42 ∧ d = 47) := by
      rw [Bool.eq_iff_iff]
      simp only [List.isPrefixOf, Bool.and_true, Bool.and_eq_true, beq_iff_eq, decide_eq_true_iff]
      exact ⟨fun h => ⟨h.1.symm, h.2.symm⟩, fun h => ⟨h.1.symm, h.2.symm⟩⟩
    rw [e, e2, e3]
    by_cases hc : c = 42 ∧ d = 47
    · exact .inr ⟨0, by simp [hc], by simp [hc]⟩
    · rw [if_neg (by simpa using hc), if_neg hc]
      rcases ih with ⟨h1, h2⟩ | ⟨m, h1, h2⟩
      · exact .inl ⟨by rw [h1]; rfl, by rw [h2]; rfl⟩
      · exact .inr ⟨m + 1, by rw [h1, if_neg (by simp)]; rfl, by rw [h2]; rfl⟩

theorem pre2 (a b c d : UInt8) (r : List UInt8) : Lib.hasPrefix (c :: d :: r) [a, b] = decide (c = a ∧ d = b) := by
  show List.isPrefixOf [a, b] (c :: d :: r) = _
  rw [Bool.eq_iff_iff]
  simp only [List.isPrefixOf, Bool.and_true, Bool.and_eq_true, beq_iff_eq, decide_eq_true_iff]
  exact ⟨fun h => ⟨h.1.symm, h.2.symm⟩, fun h => ⟨h.1.symm, h.2.symm⟩⟩
theorem pre1 (a b c : UInt8) : Lib.hasPrefix [c] [a, b] = false := by simp [Lib.hasPrefix, List.isPrefixOf]

/-- What a comment's length comes to, by what the library tells. -/
theorem comment_cases (l : List UInt8) :
    (Lib.hasPrefix l [47, 47] = true ∧ 2 ≤ l.length ∧ ((Lib.indexByte l 10 = -1 ∧ Lx.commentLen l = l.length) ∨ Lib.indexByte l 10 = (Lx.commentLen l : Nat))) ∨
    (Lib.hasPrefix l [47, 47] = false ∧ Lib.hasPrefix l [47, 42] = true ∧ 2 ≤ l.length ∧ ((Lib.index (l.drop 2) [42, 47] = -1 ∧ Lx.commentLen l = 0) ∨ ∃ m : Nat, Lib.index (l.drop 2) [42, 47] = m ∧ Lx.commentLen l = m + 4 ∧ m + 4 ≤ l.length)) ∨
    (Lib.hasPrefix l [47, 47] = false ∧ Lib.hasPrefix l [47, 42] = false ∧ Lx.commentLen l = 0) := by
  match l with
  | [] => exact .inr (.inr ⟨rfl, rfl, rfl⟩)
  | [c] => exact .inr (.inr ⟨pre1 _ _ _, pre1 _ _ _, rfl⟩)
  | c :: d :: r =>
    rw [pre2, pre2, Lx.commentLen_cons]
    by_cases h1 : c = 47 ∧ d = 47
    · refine .inl ⟨by simp [h1], by simp, ?_⟩
      rw [if_pos h1]
      exact indexByte_line _
    · by_cases h2 : c = 47 ∧ d = 42
      · refine .inr (.inl ⟨by simpa using h1, by simp [h2], by simp, ?_⟩)
        rw [if_neg h1, if_pos h2, List.drop_succ_cons, List.drop_succ_cons, List.drop_zero]
        rcases index_clos r with ⟨h3, h4⟩ | ⟨m, h3, h4⟩
        · exact .inl ⟨h3, by rw [h4]; rfl⟩
        · have := Lx.clos_le r m h4
          exact .inr ⟨m, h3, by rw [h4]; simp [Lx.upto]; omega, by simp; omega⟩
      · exact .inr (.inr ⟨by simpa using h1, by simpa using h2, by rw [if_neg h1, if_neg h2]⟩)

set_option maxHeartbeats 1000000 in
theorem comment_any (s : ByteArray) (hs : s.size ≤ 4000000000) (w : World) (hG : Glob w) : Calls Tryd.prog 63 #[.string s] w fun e w' => e = .returned (.int .i64 (Lx.commentLen s.data.toList)) ∧ w = w' := by
  have hcs := comment_cases s.data.toList
  have hle := Lx.commentLen_le s.data.toList
  rw [size_list] at hcs hle
  obtain ⟨R, hR⟩ : ∃ R, R = Lx.commentLen s.data.toList := ⟨_, rfl⟩
  rw [← hR] at hcs hle ⊢
  clear hR
  have HG := Lib.hid hG
  clear hG
  rcases hcs with ⟨h1, h2, h3⟩ | ⟨h1, h2, h3, h4⟩ | ⟨h1, h2, h3⟩
  · have H1 := Lib.hid h1
    rcases h3 with ⟨h3, h4⟩ | h3
    · have H3 := Lib.hid h3
      subst h4
      clear h1 h3
      go_enter Tryd.func63, Tryd.ntmps63
      go_wp2_with fail
      refine (prefix_any s ⟨#[47, 47]⟩ _).mono ?_
      rintro e w' ⟨rfl, rfl⟩
      rw [show (⟨#[47, 47]⟩ : ByteArray).data.toList = [47, 47] from rfl, H1.out]
      go_wp2_with fail
      refine (indexbyte_any s _).mono ?_
      rintro e w' ⟨rfl, rfl⟩
      rw [H3.out]
      go_wp2_with fail
      go_ret
      exact ⟨rfl, rfl⟩
    · have H3 := Lib.hid h3
      clear h1 h3
      go_enter Tryd.func63, Tryd.ntmps63
      go_wp2_with fail
      refine (prefix_any s ⟨#[47, 47]⟩ _).mono ?_
      rintro e w' ⟨rfl, rfl⟩
      rw [show (⟨#[47, 47]⟩ : ByteArray).data.toList = [47, 47] from rfl, H1.out]
      go_wp2_with fail
      refine (indexbyte_any s _).mono ?_
      rintro e w' ⟨rfl, rfl⟩
      rw [H3.out]
      go_wp2_with fail
      go_ret
      exact ⟨rfl, rfl⟩
  · have H1 := Lib.hid h1
    have H2 := Lib.hid h2
    have z2 : 2 ≤ s.size := h3
    rcases h4 with ⟨h4, h5⟩ | ⟨m, h4, h5, h6⟩
    · have H4 := Lib.hid h4
      subst h5
      clear h1 h2 h4
      go_enter Tryd.func63, Tryd.ntmps63
      go_wp2_with fail
      refine (prefix_any s ⟨#[47, 47]⟩ _).mono ?_
      rintro e w' ⟨rfl, rfl⟩
      rw [show (⟨#[47, 47]⟩ : ByteArray).data.toList = [47, 47] from rfl, H1.out]
      go_wp2_with fail
      refine (prefix_any s ⟨#[47, 42]⟩ _).mono ?_
      rintro e w' ⟨rfl, rfl⟩
      rw [show (⟨#[47, 42]⟩ : ByteArray).data.toList = [47, 42] from rfl, H2.out]
      go_wp2_with fail
      refine (index_any _ _ HG.out (by simp; omega)).mono ?_
      rintro e w' ⟨rfl, rfl⟩
      rw [Lib.extract_to_end, H4.out]
      go_wp2_with fail
      go_ret
      exact ⟨rfl, rfl⟩
    · have H4 := Lib.hid h4
      have H5 := Lib.hid h5
      clear h1 h2 h4 h5
      go_enter Tryd.func63, Tryd.ntmps63
      go_wp2_with fail
      refine (prefix_any s ⟨#[47, 47]⟩ _).mono ?_
      rintro e w' ⟨rfl, rfl⟩
      rw [show (⟨#[47, 47]⟩ : ByteArray).data.toList = [47, 47] from rfl, H1.out]
      go_wp2_with fail
      refine (prefix_any s ⟨#[47, 42]⟩ _).mono ?_
      rintro e w' ⟨rfl, rfl⟩
      rw [show (⟨#[47, 42]⟩ : ByteArray).data.toList = [47, 42] from rfl, H2.out]
      go_wp2_with fail
      refine (index_any _ _ HG.out (by simp; omega)).mono ?_
      rintro e w' ⟨rfl, rfl⟩
      rw [Lib.extract_to_end, H4.out]
      go_wp2_with fail
      go_ret
      exact ⟨ret_int (by rw [H5.out]; omega), rfl⟩
  · have H1 := Lib.hid h1
    have H2 := Lib.hid h2
    subst h3
    clear h1 h2
    go_enter Tryd.func63, Tryd.ntmps63
    go_wp2_with fail
    refine (prefix_any s ⟨#[47, 47]⟩ _).mono ?_
    rintro e w' ⟨rfl, rfl⟩
    rw [show (⟨#[47, 47]⟩ : ByteArray).data.toList = [47, 47] from rfl, H1.out]
    go_wp2_with fail
    refine (prefix_any s ⟨#[47, 42]⟩ _).mono ?_
    rintro e w' ⟨rfl, rfl⟩
    rw [show (⟨#[47, 42]⟩ : ByteArray).data.toList = [47, 42] from rfl, H2.out]
    go_wp2_with fail
    go_ret
    exact ⟨rfl, rfl⟩

theorem isBl_int (c : UInt8) : Lx.isBl c = (((c.toNat : Int) == 32) || ((c.toNat : Int) == 9) || ((c.toNat : Int) == 11) || ((c.toNat : Int) == 12) || ((c.toNat : Int) == 13)) := by
  unfold Lx.isBl
  simp only [u8_beq]
  rfl

set_option maxHeartbeats 1000000 in
theorem blank_any (s : ByteArray) (hs : s.size ≤ 4000000000) (h0 : 0 < s.size) (w : World) (hG : Glob w) : Calls Tryd.prog 45 #[.string s] w fun e w' => e = .returned (.int .i64 (Lx.blankLen s.data.toList)) ∧ w = w' := by
  have hd0 := drop_at s 0 h0
  rw [List.drop_zero] at hd0
  have hbl : Lx.blankLen s.data.toList = if Lx.isBl s[0] then 1 else Lx.commentLen s.data.toList := by
    conv => lhs; rw [hd0]
    rw [Lx.blankLen_cons, ← hd0]
  obtain ⟨R, hR⟩ : ∃ R, R = Lx.blankLen s.data.toList := ⟨_, rfl⟩
  rw [← hR] at hbl ⊢
  clear hR hd0
  have HG := Lib.hid hG
  clear hG
  have hi := isBl_int s[0]
  cases hB : Lx.isBl s[0] with
  | true =>
    rw [hB] at hi hbl
    rw [if_pos rfl] at hbl
    subst hbl
    have hcase : ((s[0].toNat : Int) == 32) = true ∨ (((s[0].toNat : Int) == 32) = false ∧ ((s[0].toNat : Int) == 9) = true) ∨ (((s[0].toNat : Int) == 32) = false ∧ ((s[0].toNat : Int) == 9) = false ∧ ((s[0].toNat : Int) == 11) = true) ∨
        (((s[0].toNat : Int) == 32) = false ∧ ((s[0].toNat : Int) == 9) = false ∧ ((s[0].toNat : Int) == 11) = false ∧ ((s[0].toNat : Int) == 12) = true) ∨
        (((s[0].toNat : Int) == 32) = false ∧ ((s[0].toNat : Int) == 9) = false ∧ ((s[0].toNat : Int) == 11) = false ∧ ((s[0].toNat : Int) == 12) = false ∧ ((s[0].toNat : Int) == 13) = true) := by
      revert hi
      cases ((s[0].toNat : Int) == 32) <;> cases ((s[0].toNat : Int) == 9) <;> cases ((s[0].toNat : Int) == 11) <;> cases ((s[0].toNat : Int) == 12) <;> cases ((s[0].toNat : Int) == 13) <;> simp
    clear hi hB
    rcases hcase with h1 | ⟨h1, h2⟩ | ⟨h1, h2, h3⟩ | ⟨h1, h2, h3, h4⟩ | ⟨h1, h2, h3, h4, h5⟩
    all_goals
      go_enter Tryd.func45, Tryd.ntmps45
      go_wp2_with fail
      go_ret
      exact ⟨rfl, rfl⟩
  | false =>
    rw [hB] at hi hbl
    rw [if_neg (by simp)] at hbl
    have hall : ((s[0].toNat : Int) == 32) = false ∧ ((s[0].toNat : Int) == 9) = false ∧ ((s[0].toNat : Int) == 11) = false ∧ ((s[0].toNat : Int) == 12) = false ∧ ((s[0].toNat : Int) == 13) = false := by
      revert hi
      cases ((s[0].toNat : Int) == 32) <;> cases ((s[0].toNat : Int) == 9) <;> cases ((s[0].toNat : Int) == 11) <;> cases ((s[0].toNat : Int) == 12) <;> cases ((s[0].toNat : Int) == 13) <;> simp
    obtain ⟨h1, h2, h3, h4, h5⟩ := hall
    have HR := Lib.hid hbl
    clear hi hB hbl
    go_enter Tryd.func45, Tryd.ntmps45
    go_wp2_with fail
    refine (comment_any s hs _ HG.out).mono ?_
    rintro e w' ⟨rfl, rfl⟩
    rw [← HR.out]
    go_wp2_with fail
    go_ret
    exact ⟨rfl, rfl⟩
end Go.Proofs.YtfjbmenakcnadaaDoor

/- What is proved: what first tells of a text: the kind and the length of its first token. -/
namespace Go.Proofs.YtfjbmenakcnadaaDoor
open Go.RowKit Go.Shelf

/-- A kind and a length. -/
def Pair (w : World) (p : Nat × Nat) (e : Ending) (w' : World) : Prop := e = .returned (.tuple #[.int .i64 p.1, .int .i64 p.2]) ∧ Below w.heap.size w w'

theorem head_yes (s : ByteArray) (h : 1 < s.size) : Lx.headDigit (s.data.toList.drop 1) = Lx.digit s[1] := by
  rw [drop_at s 1 h]; rfl
theorem head_no (s : ByteArray) (h : ¬ 1 < s.size) : Lx.headDigit (s.data.toList.drop 1) = false := by
  rw [drop_end s 1 (by omega)]; rfl

set_option maxHeartbeats 4000000 in
set_option maxRecDepth 100000 in
theorem first_any (s : ByteArray) (hs : s.size ≤ 4000000000) (h0 : 0 < s.size) (w : World) (hG : Glob w) : Calls Tryd.prog 46 #[.string s] w (Pair w (Lx.first s.data.toList)) := by
  have hd0 := drop_at s 0 h0
  rw [List.drop_zero, show 0 + 1 = 1 from rfl] at hd0
  have hf := Lx.first_cons s[0] (s.data.toList.drop 1)
  have hnl := Lx.numLen_cons s[0] (s.data.toList.drop 1)
  rw [← hd0] at hf hnl
  have b1 := (Lx.closedLen_le 34 s.data.toList).1
  have b2 := (Lx.closedLen_le 39 s.data.toList).1
  have hsg := Lx.signLen_le s.data.toList
  rw [size_list] at b1 b2 hsg
  obtain ⟨P, hP⟩ : ∃ P, P = Lx.first s.data.toList := ⟨_, rfl⟩
  rw [← hP] at hf ⊢
  clear hP
  obtain ⟨A, hA⟩ : ∃ A, A = Lx.closedLen 34 s.data.toList := ⟨_, rfl⟩
  obtain ⟨B, hB'⟩ : ∃ B, B = Lx.closedLen 39 s.data.toList := ⟨_, rfl⟩
  obtain ⟨C, hC⟩ : ∃ C, C = Lx.signLen s.data.toList := ⟨_, rfl⟩
  rw [← hA, ← hB', ← hC] at hf
  rw [← hA] at b1
  rw [← hB'] at b2
  rw [← hC] at hsg
  have HA := Lib.hid hA
  have HB := Lib.hid hB'
  have HC := Lib.hid hC
  clear hA hB' hC
  have HG := Lib.hid hG
  clear hG
  by_cases hA : s[0] = 10
  · rw [if_pos hA] at hf
    have t1 : ((s[0].toNat : Int) == 10) = true := u8_eq hA
    subst hf
    clear hA hd0 hnl
    go_enter Tryd.func46, Tryd.ntmps46
    go_wp2_with fail
    go_ret2
    exact ⟨rfl, Below.refl _ _⟩
  · rw [if_neg hA] at hf
    have t1 : ((s[0].toNat : Int) == 10) = false := u8_ne hA
    clear hA
    cases hB : Lx.letter s[0] with
    | true =>
      rw [if_pos hB] at hf
      subst hf
      clear hd0 hnl
      go_enter Tryd.func46, Tryd.ntmps46
      go_wp2_with (first | (go_at_call 64; refine (letter_any _ _).mono ?_; rintro e w' ⟨rfl, rfl⟩) | (go_at_call 65; refine (name_any s hs _).mono ?_; rintro e w' ⟨rfl, rfl⟩))
      go_ret2
      exact ⟨rfl, Below.refl _ _⟩
    | false =>
      rw [if_neg (by rw [hB]; simp)] at hf
      have t46 := u8_beq s[0] 46
      rw [show ((46 : UInt8).toNat : Int) = 46 from rfl] at t46
      rw [t46] at hnl
      by_cases hN : (Lx.digit s[0] || (((s[0].toNat : Int) == 46) && Lx.headDigit (s.data.toList.drop 1))) = true
      · rw [if_pos hN] at hnl
        rw [hnl, if_pos (by omega)] at hf
        have hcase : Lx.digit s[0] = true ∨ (Lx.digit s[0] = false ∧ ((s[0].toNat : Int) == 46) = true ∧ ∃ h : 1 < s.size, Lx.digit s[1] = true) := by
          cases hD : Lx.digit s[0] with
          | true => exact .inl rfl
          | false =>
            rw [hD, Bool.false_or, Bool.and_eq_true] at hN
            refine .inr ⟨rfl, hN.1, ?_⟩
            by_cases h1 : 1 < s.size
            · exact ⟨h1, by rw [← head_yes s h1]; exact hN.2⟩
            · have := hN.2; rw [head_no s h1] at this; cases this
        obtain ⟨M, hM⟩ : ∃ M, M = 1 + Lx.numRest (s.data.toList.drop 1) := ⟨_, rfl⟩
        rw [← hM] at hf
        have HM := Lib.hid hM
        subst hf
        clear hd0 hnl hN t46 hM
        rcases hcase with h1 | ⟨h1, h2, h3, h4⟩
        all_goals
          go_enter Tryd.func46, Tryd.ntmps46
          go_wp2_with (first | (go_at_call 64; refine (letter_any _ _).mono ?_; rintro e w' ⟨rfl, rfl⟩) | (go_at_call 66; refine (digit_any _ _).mono ?_; rintro e w' ⟨rfl, rfl⟩) | (go_at_call 67; refine (number_any s hs h0 _).mono ?_; rintro e w' ⟨rfl, rfl⟩; rw [← HM.out]))
          go_ret2
          exact ⟨rfl, Below.refl _ _⟩
      · rw [if_neg hN] at hnl
        rw [hnl, if_neg (by omega)] at hf
        have hcase : (Lx.digit s[0] = false ∧ ((s[0].toNat : Int) == 46) = false) ∨ (Lx.digit s[0] = false ∧ ((s[0].toNat : Int) == 46) = true ∧ ¬ 1 < s.size) ∨ (Lx.digit s[0] = false ∧ ((s[0].toNat : Int) == 46) = true ∧ ∃ h : 1 < s.size, Lx.digit s[1] = false) := by
          cases hD : Lx.digit s[0] with
          | true => rw [hD] at hN; simp at hN
          | false =>
            rw [hD, Bool.false_or] at hN
            cases h46 : ((s[0].toNat : Int) == 46) with
            | false => exact .inl ⟨rfl, rfl⟩
            | true =>
              rw [h46, Bool.true_and] at hN
              by_cases h1 : 1 < s.size
              · rw [head_yes s h1] at hN
                exact .inr (.inr ⟨rfl, rfl, h1, by simpa using hN⟩)
              · exact .inr (.inl ⟨rfl, rfl, h1⟩)
        clear hd0 hnl hN t46
        by_cases hA0 : 0 < A
        · rw [if_pos hA0] at hf
          subst hf
          rcases hcase with ⟨h1, h2⟩ | ⟨h1, h2, h3⟩ | ⟨h1, h2, h3, h4⟩
          all_goals try (exfalso; omega)
          all_goals
            go_enter Tryd.func46, Tryd.ntmps46
            go_wp2_with (first | (go_at_call 64; refine (letter_any _ _).mono ?_; rintro e w' ⟨rfl, rfl⟩) | (go_at_call 66; refine (digit_any _ _).mono ?_; rintro e w' ⟨rfl, rfl⟩))
            refine (closed_any s hs h0 34 (by decide) (by decide) _).mono ?_
            rintro e w' ⟨rfl, rfl⟩
            rw [← HA.out]
            go_wp2_with fail
            go_ret2
            exact ⟨rfl, Below.refl _ _⟩
        · rw [if_neg hA0] at hf
          by_cases hB2 : 2 < B
          · rw [if_pos hB2] at hf
            subst hf
            rcases hcase with ⟨h1, h2⟩ | ⟨h1, h2, h3⟩ | ⟨h1, h2, h3, h4⟩
            all_goals try (exfalso; omega)
            all_goals
              go_enter Tryd.func46, Tryd.ntmps46
              go_wp2_with (first | (go_at_call 64; refine (letter_any _ _).mono ?_; rintro e w' ⟨rfl, rfl⟩) | (go_at_call 66; refine (digit_any _ _).mono ?_; rintro e w' ⟨rfl, rfl⟩))
              refine (closed_any s hs h0 34 (by decide) (by decide) _).mono ?_
              rintro e w' ⟨rfl, rfl⟩
              rw [← HA.out]
              go_wp2_with fail
              refine (closed_any s hs h0 39 (by decide) (by decide) _).mono ?_
              rintro e w' ⟨rfl, rfl⟩
              rw [← HB.out]
              go_wp2_with fail
              go_ret2
              exact ⟨rfl, Below.refl _ _⟩
          · rw [if_neg hB2] at hf
            by_cases hC0 : 0 < C
            · rw [if_pos hC0] at hf
              subst hf
              rcases hcase with ⟨h1, h2⟩ | ⟨h1, h2, h3⟩ | ⟨h1, h2, h3, h4⟩
              all_goals try (exfalso; omega)
              all_goals
                go_enter Tryd.func46, Tryd.ntmps46
                go_wp2_with (first | (go_at_call 64; refine (letter_any _ _).mono ?_; rintro e w' ⟨rfl, rfl⟩) | (go_at_call 66; refine (digit_any _ _).mono ?_; rintro e w' ⟨rfl, rfl⟩))
                refine (closed_any s hs h0 34 (by decide) (by decide) _).mono ?_
                rintro e w' ⟨rfl, rfl⟩
                rw [← HA.out]
                go_wp2_with fail
                refine (closed_any s hs h0 39 (by decide) (by decide) _).mono ?_
                rintro e w' ⟨rfl, rfl⟩
                rw [← HB.out]
                go_wp2_with fail
                refine (sign_any s hs _ HG.out).mono ?_
                rintro e w' ⟨rfl, hB⟩
                rw [← HC.out]
                go_wp2_with fail
                go_ret2
                exact ⟨rfl, hB⟩
            · rw [if_neg hC0] at hf
              subst hf
              rcases hcase with ⟨h1, h2⟩ | ⟨h1, h2, h3⟩ | ⟨h1, h2, h3, h4⟩
              all_goals try (exfalso; omega)
              all_goals
                go_enter Tryd.func46, Tryd.ntmps46
                go_wp2_with (first | (go_at_call 64; refine (letter_any _ _).mono ?_; rintro e w' ⟨rfl, rfl⟩) | (go_at_call 66; refine (digit_any _ _).mono ?_; rintro e w' ⟨rfl, rfl⟩))
                refine (closed_any s hs h0 34 (by decide) (by decide) _).mono ?_
                rintro e w' ⟨rfl, rfl⟩
                rw [← HA.out]
                go_wp2_with fail
                refine (closed_any s hs h0 39 (by decide) (by decide) _).mono ?_
                rintro e w' ⟨rfl, rfl⟩
                rw [← HB.out]
                go_wp2_with fail
                refine (sign_any s hs _ HG.out).mono ?_
                rintro e w' ⟨rfl, hB⟩
                rw [← HC.out]
                go_wp2_with fail
                go_ret2
                exact ⟨rfl, hB⟩
end Go.Proofs.YtfjbmenakcnadaaDoor

/- What is proved: slices of tokens in memory. -/
namespace Go.Proofs.YtfjbmenakcnadaaDoor
open Go.RowKit Go.Shelf
open Lx (T)

/-- A token's six cells. -/
def cellsOne (f : Int) (t : T) : List Value := [.int .i64 t.kind, .string ⟨t.text.toArray⟩, .int .i64 f, .int .i64 t.fr, .int .i64 t.to, .bool t.bl]
/-- The cells of tokens. -/
def tokCells (f : Int) : List T → List Value
  | [] => []
  | t :: r => cellsOne f t ++ tokCells f r
theorem tokCells_append (f : Int) (a b : List T) : tokCells f (a ++ b) = tokCells f a ++ tokCells f b := by
  induction a with
  | nil => rfl
  | cons x r ih => simp [tokCells, ih]
theorem tokCells_length (f : Int) (a : List T) : (tokCells f a).length = a.length * 6 := by
  induction a with
  | nil => rfl
  | cons x r ih => simp [tokCells, cellsOne, ih]; omega
theorem tokCells_get (f : Int) (a : List T) : ∀ i t, a[i]? = some t → ∀ j v, (cellsOne f t)[j]? = some v → (tokCells f a)[i * 6 + j]? = some v := by
  induction a with
  | nil => intro i x h; simp at h
  | cons y r ih =>
    intro i t h j v hj
    have h6 : (cellsOne f y).length = 6 := rfl
    cases i with
    | zero =>
      simp at h; subst h
      have hlt := (List.getElem?_eq_some_iff.1 hj).1
      rw [tokCells, List.getElem?_append_left (by omega), Nat.zero_mul, Nat.zero_add]
      exact hj
    | succ i =>
      simp at h
      rw [tokCells, List.getElem?_append_right (by omega), h6, show (i + 1) * 6 + j - 6 = i * 6 + j by omega]
      exact ih i t h j v hj

/-- The cells at a place are a token's. -/
def TokAt (W : World) (g o : Nat) (f : Int) (t : T) : Prop :=
  W.cell? ⟨g, o, none⟩ = some (.int .i64 t.kind) ∧ W.cell? ⟨g, o + 1, none⟩ = some (.string ⟨t.text.toArray⟩) ∧ W.cell? ⟨g, o + 2, none⟩ = some (.int .i64 f) ∧
  W.cell? ⟨g, o + 3, none⟩ = some (.int .i64 t.fr) ∧ W.cell? ⟨g, o + 4, none⟩ = some (.int .i64 t.to) ∧ W.cell? ⟨g, o + 5, none⟩ = some (.bool t.bl)
theorem TokAt.below {W W' : World} {g o n : Nat} {f : Int} {t : T} (h : TokAt W g o f t) (hb : Below n W W') (hg : g < n) : TokAt W' g o f t := by
  obtain ⟨h0, h1, h2, h3, h4, h5⟩ := h
  exact ⟨(hb.cell (p := ⟨g, o, none⟩) hg).trans h0, (hb.cell (p := ⟨g, o + 1, none⟩) hg).trans h1, (hb.cell (p := ⟨g, o + 2, none⟩) hg).trans h2,
    (hb.cell (p := ⟨g, o + 3, none⟩) hg).trans h3, (hb.cell (p := ⟨g, o + 4, none⟩) hg).trans h4, (hb.cell (p := ⟨g, o + 5, none⟩) hg).trans h5⟩

/-- A slice value whose elements are these tokens. -/
def Toks (W : World) (v : Value) (f : Int) (ts : List T) : Prop :=
  ∃ ad cap, v = .slice ad ts.length cap ∧ ts.length ≤ cap ∧ cap ≤ maxLen ∧ ∀ i t, ts[i]? = some t → ∃ g o, ad = some ⟨g, o, none⟩ ∧ TokAt W g (o + i * 6) f t

theorem Toks.below {W W' : World} {v : Value} {f : Int} {ts : List T} (h : Toks W v f ts) (hb : Below W.heap.size W W') : Toks W' v f ts := by
  obtain ⟨ad, cap, rfl, h1, h2, h3⟩ := h
  refine ⟨ad, cap, rfl, h1, h2, fun i t ht => ?_⟩
  obtain ⟨g, o, e, c⟩ := h3 i t ht
  exact ⟨g, o, e, c.below hb (lt_of_cell c.1)⟩

theorem Toks.of_row {W : World} {base : Nat} {v : Value} {f : Int} {ts : List T} (h : W.ownsRow base 39 6 v ts.length (tokCells f ts)) : Toks W v f ts := by
  have hc := fun g => h.cells (g := g)
  rcases h.2 with ⟨rfl, h0⟩ | ⟨g, cap, cur, rfl, _, _, h1, h2, _, _⟩
  · refine ⟨none, 0, by rw [h0], by omega, Nat.zero_le _, fun i x hx => ?_⟩
    rw [List.length_eq_zero_iff.1 h0] at hx
    simp at hx
  · refine ⟨_, cap, rfl, h1, h2, fun i t ht => ⟨g, 0, rfl, ?_⟩⟩
    have key : ∀ j v, (cellsOne f t)[j]? = some v → W.cell? ⟨g, 0 + (i * 6 + j), none⟩ = some v := fun j v hj => by
      have := hc g rfl (i * 6 + j) v (tokCells_get f ts i t ht j v hj)
      rwa [add_none] at this
    refine ⟨key 0 _ rfl, ?_, ?_, ?_, ?_, ?_⟩
    · exact key 1 _ rfl
    · exact key 2 _ rfl
    · exact key 3 _ rfl
    · exact key 4 _ rfl
    · exact key 5 _ rfl

theorem Toks.cells {W : World} {ad : Option Addr} {n cap : Nat} {f : Int} {ts : List T} (h : Toks W (.slice ad n cap) f ts) (hl : 0 < ts.length) :
    ∃ g o, ad = some ⟨g, o, none⟩ ∧ n = ts.length ∧ ts.length ≤ cap ∧ cap ≤ maxLen ∧ g < W.heap.size ∧ ∀ i t, ts[i]? = some t → TokAt W g (o + i * 6) f t := by
  obtain ⟨ad', cap', e, h1, h2, h3⟩ := h
  injection e with e1 e2 e3
  subst e1 e2 e3
  obtain ⟨g, o, rfl, c0⟩ := h3 0 _ (List.getElem?_eq_getElem hl)
  refine ⟨g, o, rfl, rfl, h1, h2, lt_of_cell c0.1, fun i x hx => ?_⟩
  obtain ⟨g', o', e, d⟩ := h3 i x hx
  injection e with e
  injection e with e4 e5
  subst e4 e5
  exact d

theorem infoTok : (Tryd.prog.info? 39).map (fun i => (i.zero, i.size, i.bytes)) = some (some (.agg #[.int .i64 0, .string ByteArray.empty, .int .i64 0, .int .i64 0, .int .i64 0, .bool false]), 6, 56) := by kernel_rfl

/-- Tokens: new memory that holds just the tokens of a text. -/
def ToksPost (w : World) (f : Int) (ts : List T) (e : Ending) (w' : World) : Prop := ∃ v, e = .returned v ∧ Toks w' v f ts ∧ Below w.heap.size w w'

/-- What has come when l is passed up to place k, and what is still to come. -/
def Sofar (l : List Sp.Ch) (k : Nat) (p : Bool) (acc : List T) : Prop := k ≤ l.length ∧ acc.length ≤ k ∧ Lx.tk false l = acc ++ Lx.tk p (l.drop k)
theorem sofar_start (l : List Sp.Ch) : Sofar l 0 false [] := ⟨Nat.zero_le _, Nat.le_refl _, by simp⟩
theorem sofar_end {l : List Sp.Ch} {k : Nat} {p : Bool} {acc : List T} (h : Sofar l k p acc) (hk : l.length ≤ k) : acc = Lx.tk false l := by
  rw [h.2.2, List.drop_of_length_le hk, Lx.tk_nil]; simp
theorem sofar_blank {l : List Sp.Ch} {k : Nat} {p : Bool} {acc : List T} (h : Sofar l k p acc) (hb : 0 < Lx.blankLen (Lx.bytes (l.drop k))) :
    k + Lx.blankLen (Lx.bytes (l.drop k)) ≤ l.length ∧ Sofar l (k + Lx.blankLen (Lx.bytes (l.drop k))) true acc := by
  have h1 := Lx.blank_len (l.drop k)
  rw [List.length_drop] at h1
  have h2 := h.1
  refine ⟨by omega, by omega, by have := h.2.1; omega, ?_⟩
  rw [h.2.2, Lx.tk_blank p _ hb, List.drop_drop]
theorem sofar_tok {l : List Sp.Ch} {k : Nat} {p : Bool} {acc : List T} (h : Sofar l k p acc) (hk : k < l.length) (hb : Lx.blankLen (Lx.bytes (l.drop k)) = 0) :
    0 < (Lx.first (Lx.bytes (l.drop k))).2 ∧ k + (Lx.first (Lx.bytes (l.drop k))).2 ≤ l.length ∧ Sofar l (k + (Lx.first (Lx.bytes (l.drop k))).2) false (acc ++ [Lx.tokAt p (l.drop k)]) := by
  have hl : l.drop k ≠ [] := by rw [Ne, List.drop_eq_nil_iff]; omega
  have h1 := Lx.first_len (l.drop k) hl
  rw [List.length_drop] at h1
  have h2 := h.1
  refine ⟨h1.1, by omega, by omega, by have := h.2.1; simp; omega, ?_⟩
  rw [h.2.2, Lx.tk_tok p _ hl hb, List.drop_drop]
  simp
end Go.Proofs.YtfjbmenakcnadaaDoor

/- What is proved: slices of tokens, of any kind, in memory. -/
namespace Go.Proofs.YtfjbmenakcnadaaDoor
open Go.RowKit Go.Shelf
open Lx (T)

theorem Below.then {w w1 w2 : World} (h : Below w.heap.size w w1) (k : Below w1.heap.size w1 w2) : Below w.heap.size w w2 := h.trans (k.mono h.size)
/-- A law's answer. -/
def TruePost (w : World) (e : Ending) (w' : World) : Prop := e = .returned (.bool true) ∧ Below w.heap.size w w'

/-- A token with all that it holds. -/
structure K where
  kind : Int
  text : ByteArray
  file : Int
  fr : Int
  en : Int
  bl : Bool

def ofT (f : Int) (t : T) : K := ⟨t.kind, ⟨t.text.toArray⟩, f, t.fr, t.to, t.bl⟩
/-- A token's six cells. -/
def kCells (t : K) : List Value := [.int .i64 t.kind, .string t.text, .int .i64 t.file, .int .i64 t.fr, .int .i64 t.en, .bool t.bl]
def ksCells : List K → List Value
  | [] => []
  | t :: r => kCells t ++ ksCells r
theorem ksCells_append (a b : List K) : ksCells (a ++ b) = ksCells a ++ ksCells b := by
  induction a with
  | nil => rfl
  | cons x r ih => simp [ksCells, ih]
theorem ksCells_length (a : List K) : (ksCells a).length = a.length * 6 := by
  induction a with
  | nil => rfl
  | cons x r ih => simp [ksCells, kCells, ih]; omega
theorem ksCells_get (a : List K) : ∀ i t, a[i]? = some t → ∀ j v, (kCells t)[j]? = some v → (ksCells a)[i * 6 + j]? = some v := by
  induction a with
  | nil => intro i x h; simp at h
  | cons y r ih =>
    intro i t h j v hj
    have h6 : (kCells y).length = 6 := rfl
    cases i with
    | zero =>
      simp at h; subst h
      have hlt := (List.getElem?_eq_some_iff.1 hj).1
      rw [ksCells, List.getElem?_append_left (by omega), Nat.zero_mul, Nat.zero_add]
      exact hj
    | succ i =>
      simp at h
      rw [ksCells, List.getElem?_append_right (by omega), h6, show (i + 1) * 6 + j - 6 = i * 6 + j by omega]
      exact ih i t h j v hj
theorem ksCells_one (a : List K) : ∀ u ∈ ksCells a, u.oneCell' = true := by
  induction a with
  | nil => intro u hu; simp [ksCells] at hu
  | cons x r ih =>
    intro u hu
    rcases List.mem_append.1 hu with h | h
    · simp only [kCells, List.mem_cons, List.not_mem_nil, or_false] at h
      rcases h with rfl | rfl | rfl | rfl | rfl | rfl <;> rfl
    · exact ih u h

/-- The cells at a place are a token's. -/
def KAt (W : World) (g o : Nat) (t : K) : Prop :=
  W.cell? ⟨g, o, none⟩ = some (.int .i64 t.kind) ∧ W.cell? ⟨g, o + 1, none⟩ = some (.string t.text) ∧ W.cell? ⟨g, o + 2, none⟩ = some (.int .i64 t.file) ∧
  W.cell? ⟨g, o + 3, none⟩ = some (.int .i64 t.fr) ∧ W.cell? ⟨g, o + 4, none⟩ = some (.int .i64 t.en) ∧ W.cell? ⟨g, o + 5, none⟩ = some (.bool t.bl)
theorem KAt.kept {W W' : World} {g o : Nat} {t : K} (h : KAt W g o t) (hb : W'.heap[g]? = W.heap[g]?) : KAt W' g o t := by
  obtain ⟨h0, h1, h2, h3, h4, h5⟩ := h
  have k := fun o : Nat => World.cell?_of_block (a := ⟨g, o, none⟩) hb
  exact ⟨(k _).trans h0, (k _).trans h1, (k _).trans h2, (k _).trans h3, (k _).trans h4, (k _).trans h5⟩
theorem KAt.below {W W' : World} {g o n : Nat} {t : K} (h : KAt W g o t) (hb : Below n W W') (hg : g < n) : KAt W' g o t := h.kept (hb.block g hg)

/-- A slice value whose elements are these tokens. -/
def Ks (W : World) (v : Value) (ts : List K) : Prop :=
  ∃ ad cap, v = .slice ad ts.length cap ∧ ts.length ≤ cap ∧ cap ≤ maxLen ∧ ∀ i t, ts[i]? = some t → ∃ g o, ad = some ⟨g, o, none⟩ ∧ KAt W g (o + i * 6) t

theorem Ks.kept {W W' : World} {v : Value} {ts : List K} (h : Ks W v ts) (hb : ∀ g o n cap, v = .slice (some ⟨g, o, none⟩) n cap → g < W.heap.size → W'.heap[g]? = W.heap[g]?) : Ks W' v ts := by
  obtain ⟨ad, cap, rfl, h1, h2, h3⟩ := h
  refine ⟨ad, cap, rfl, h1, h2, fun i t ht => ?_⟩
  obtain ⟨g, o, e, c⟩ := h3 i t ht
  exact ⟨g, o, e, c.kept (hb g o _ _ (by rw [e]) (lt_of_cell c.1))⟩
theorem Ks.below {W W' : World} {v : Value} {ts : List K} (h : Ks W v ts) (hb : Below W.heap.size W W') : Ks W' v ts :=
  h.kept fun g _ _ _ _ hg => hb.block g hg

theorem Toks.ks {W : World} {v : Value} {f : Int} {ts : List T} (h : Toks W v f ts) : Ks W v (ts.map (ofT f)) := by
  obtain ⟨ad, cap, rfl, h1, h2, h3⟩ := h
  refine ⟨ad, cap, by rw [List.length_map], by rw [List.length_map]; exact h1, h2, fun i t ht => ?_⟩
  rw [List.getElem?_map] at ht
  obtain ⟨x, hx, rfl⟩ := Option.map_eq_some_iff.1 ht
  exact h3 i x hx

theorem Ks.of_row {W : World} {base : Nat} {v : Value} {ts : List K} (h : W.ownsRow base 39 6 v ts.length (ksCells ts)) : Ks W v ts := by
  have hc := fun g => h.cells (g := g)
  rcases h.2 with ⟨rfl, h0⟩ | ⟨g, cap, cur, rfl, _, _, h1, h2, _, _⟩
  · refine ⟨none, 0, by rw [h0], by omega, Nat.zero_le _, fun i x hx => ?_⟩
    rw [List.length_eq_zero_iff.1 h0] at hx
    simp at hx
  · refine ⟨_, cap, rfl, h1, h2, fun i t ht => ⟨g, 0, rfl, ?_⟩⟩
    have key : ∀ j v, (kCells t)[j]? = some v → W.cell? ⟨g, 0 + (i * 6 + j), none⟩ = some v := fun j v hj => by
      have := hc g rfl (i * 6 + j) v (ksCells_get ts i t ht j v hj)
      rwa [add_none] at this
    refine ⟨key 0 _ rfl, ?_, ?_, ?_, ?_, ?_⟩
    · exact key 1 _ rfl
    · exact key 2 _ rfl
    · exact key 3 _ rfl
    · exact key 4 _ rfl
    · exact key 5 _ rfl

theorem Ks.cells {W : World} {ad : Option Addr} {n cap : Nat} {ts : List K} (h : Ks W (.slice ad n cap) ts) (hl : 0 < ts.length) :
    ∃ g o, ad = some ⟨g, o, none⟩ ∧ n = ts.length ∧ ts.length ≤ cap ∧ cap ≤ maxLen ∧ g < W.heap.size ∧ ∀ i t, ts[i]? = some t → KAt W g (o + i * 6) t := by
  obtain ⟨ad', cap', e, h1, h2, h3⟩ := h
  injection e with e1 e2 e3
  subst e1 e2 e3
  obtain ⟨g, o, rfl, c0⟩ := h3 0 _ (List.getElem?_eq_getElem hl)
  refine ⟨g, o, rfl, rfl, h1, h2, lt_of_cell c0.1, fun i x hx => ?_⟩
  obtain ⟨g', o', e, d⟩ := h3 i x hx
  injection e with e
  injection e with e4 e5
  subst e4 e5
  exact d

/-- What a slice of a slice of tokens is, its address left open where nothing is left. -/
theorem Ks.part {W : World} {g o n cap : Nat} {ts : List K} (h : Ks W (.slice (some ⟨g, o, none⟩) n cap) ts) (a b : Nat) (hab : a ≤ b) (hb : b ≤ ts.length) :
    Ks W (.slice (some ⟨g, o + a * 6, none⟩) (b - a) (cap - a)) ((ts.drop a).take (b - a)) := by
  obtain ⟨ad', cap', e, h1, h2, h3⟩ := h
  injection e with e1 e2 e3
  subst e1 e2 e3
  have hl : ((ts.drop a).take (b - a)).length = b - a := by rw [List.length_take, List.length_drop]; omega
  refine ⟨_, cap - a, by rw [hl], by rw [hl]; omega, by omega, fun i t ht => ?_⟩
  rw [List.getElem?_take] at ht
  split at ht
  · rw [List.getElem?_drop] at ht
    obtain ⟨g', o', e', ha⟩ := h3 _ t ht
    injection e' with e'
    injection e' with e4 e5
    subst e4 e5
    exact ⟨g, o + a * 6, rfl, by rw [show o + a * 6 + i * 6 = o + (a + i) * 6 by omega]; exact ha⟩
  · cases ht
theorem Ks.none_at (W : World) (ad : Option Addr) (cap : Nat) (hc : cap ≤ maxLen) : Ks W (.slice ad 0 cap) [] :=
  ⟨ad, cap, rfl, Nat.zero_le _, hc, fun i t ht => by simp at ht⟩
/-- A token's value. -/
def kAgg (t : K) : Value := .agg #[.int .i64 t.kind, .string t.text, .int .i64 t.file, .int .i64 t.fr, .int .i64 t.en, .bool t.bl]

end Go.Proofs.YtfjbmenakcnadaaDoor

/- What is proved: how the statements' arguments are opened, and how a call that leaves all old memory alone is closed. -/
namespace Go.Proofs.YtfjbmenakcnadaaDoor
open Go.ChangeShapes Go.WideShapes Go.ChangeAt Go.RowKit Go.Deep

theorem Tryd.own : ownKnob Tryd.prog.godebug = none := by kernel_rfl
theorem Tryd.laidOut : laidOutB Tryd.prog = true := by kernel_rfl
theorem cells3 : Tryd.prog.cellsOf 3 = 1 := by kernel_rfl

theorem spot_none {w : World} {a : Addr} {v : Value} (h : w.cell? a = some v) : a = ⟨a.block, a.off, none⟩ := by
  obtain ⟨b, o, s⟩ := a
  cases s with
  | none => rfl
  | some s =>
    unfold World.cell? at h
    split at h
    · simp at h
    · cases h

section
variable {H : Type} {enc : TypeId × Value → H}

/-- All arguments read as they did. -/
theorem stays_all {P : Program} (hl : laidOutB P = true) {W W' : World} (hb : Below W.heap.size W W') : ∀ {ts : List TypeId} {vs : List Value} {ds : List (DataW H)} {ps : List MemPlace}, (ts.all fun t => P.readableRec t && decide (t < P.types.size)) = true →
    DataW.TrodAll enc P W 0 (fun _ => true) true ts vs ds ps → (∀ x ∈ ps, x.block < W.heap.size) → DataW.TrodAll enc P W' 0 (fun b => decide (b < W.heap.size)) true ts vs ds ps := by
  intro ts
  induction ts with
  | nil =>
    intro vs ds ps _ h _
    obtain ⟨rfl, rfl, rfl⟩ := trodAll_nil h
    exact trodAll_mk0
  | cons t ts ih =>
    intro vs ds ps hr h hlt
    obtain ⟨v, vs', d, ds', p, q, rfl, rfl, rfl, h0, r0⟩ := trodAll_cons h
    simp only [List.all_cons, Bool.and_eq_true, decide_eq_true_iff] at hr
    exact trodAll_cons_mk (Below.trod hl hr.1.1 hr.1.2 h0 hb fun x hx => hlt x (List.mem_append_left _ hx)) (ih hr.2 r0 fun x hx => hlt x (List.mem_append_right _ hx))

/-- A law that answers true and leaves old memory alone is what its row asks. -/
theorem law_post {f : Func} {s : ChangeSpec} {W W' : World} {args : Array Value} {ds gs : List (DataW H)} {before pa : List MemPlace} (hW : DataW.Whole enc Tryd.prog f.params.toList s.vars false W args.toList ds gs before)
    (hA : DataW.TrodAll enc Tryd.prog W 0 (fun _ => true) true f.params.toList args.toList ds pa) (hv : s.vars = []) (hfn : (s.fn H (ds ++ gs)).results = [.lit (.bool true)] ∧ (s.fn H (ds ++ gs)).args = ds ∧ (s.fn H (ds ++ gs)).vars = [])
    (hres : f.resultTypes.toList = [4]) (hr : (f.params.toList.all fun t => Tryd.prog.readableRec t && decide (t < Tryd.prog.types.size)) = true) (hpa : ∀ x ∈ pa, x ∈ before) (hbp : ∀ x ∈ before, x ∈ pa) (hb : Below W.heap.size W W') :
    s.post enc Tryd.prog f false true false false W args (.bool true) W' := by
  have hsz : f.resultTypes.size = 1 := by rw [← Array.length_toList, hres]; rfl
  refine ⟨ds, gs, before, [], pa, [], hW, ?_, ?_, ?_, World.keptBut_mono (fun p hp => ⟨hp, .inr (.inl (hbp p hp))⟩) (hb.frame (· ∈ before)), fun h => by cases h⟩
  · rw [hres, hfn.1, hsz]
    exact trodAll_mk1 (shut_bool Tryd.underlying4 true)
  · rw [hfn.2.1]
    exact stays_all Tryd.laidOut hb hr hA fun x hx => hW.lt x (hpa x hx)
  · rw [hv, hfn.2.2]
    rfl
end
/-! ### The table of signs, as its initialiser lays it -/
theorem gSigns : Tryd.prog.globalNamed "emend/pptok.signs" = some 0 := by kernel_rfl
theorem tSigns : (Tryd.prog.globals[0]?).map (·.type) = some 99 := by kernel_rfl
theorem cellsStr : Tryd.prog.cellsOf 9 = 1 := by kernel_rfl
def laid1 : List (String × DataW Unit) := [("emend/pptok.signs", Rows.laid_emend_pptok_signs)]
theorem laid_tab : (Rows.laid_emend_pptok_signs : DataW Unit) = .agg (Lx.signTab.map fun b => .lit (.string b)) := by kernel_rfl

theorem signs_of_laid {W : World} (h : laidMetH Tryd.prog laid1 W) : ∃ t fz, W.heap[0]? = some (.cells signCells t fz) := by
  rw [MakeChecks.laidMetH_plain _ _ _ (by kernel_rfl)] at h
  obtain ⟨ps, ⟨g, t, cs, fuel, p, q, hg, ht, hv, hd, _, _⟩, _, _⟩ := h
  obtain rfl := Option.some.inj (gSigns.symm.trans hg)
  obtain rfl := Option.some.inj (tSigns.symm.trans ht)
  rw [laid_tab] at hd
  obtain ⟨xs, m, rfl, hx, hlen, hn, hel⟩ := DataW.trod_array Tryd.underlying99 hd
  have hx1 : (Lx.signTab.map fun b => (DataW.lit (.string b) : DataW Unit)) = xs.map (·.1) := by
    have := congrArg Prod.fst hx
    simpa using this
  have hc48 : Tryd.prog.cellsOf 99 = 48 := by kernel_rfl
  rw [hc48] at hlen
  have hcs : cs = signCells := by
    apply Array.toList_inj.1
    apply List.ext_getElem?
    intro i
    by_cases hi : i < 48
    · obtain ⟨x, hxi⟩ : ∃ x, xs[i]? = some x := ⟨_, List.getElem?_eq_getElem (by rw [hn]; exact hi)⟩
      have h1 := hel i hi
      rw [hxi, cellsStr, Nat.mul_one] at h1
      obtain ⟨s, e1, e2, _⟩ := DataW.trod_string Tryd.underlying9 h1
      have h2 : cs.toList[i]? = some (.string s) := by
        have := congrArg (·[0]?) e1
        simpa [List.getElem?_take, List.getElem?_drop] using this
      have h3 := congrArg (·[i]?) hx1
      simp only [List.getElem?_map, hxi, Option.map_some, e2, Option.map_eq_some_iff, DataW.lit.injEq, Lit.string.injEq] at h3
      obtain ⟨b, hb, rfl⟩ := h3
      rw [h2]
      unfold signCells
      rw [List.getElem?_map, hb]
      rfl
    · rw [List.getElem?_eq_none (by omega), List.getElem?_eq_none (by show 48 ≤ i; omega)]
  rw [hcs] at hv
  simp only [World.var?, gSigns, Option.bind_some] at hv
  split at hv
  · rename_i c t fz hh
    injection hv with hv
    subst hv
    exact ⟨t, fz, hh⟩
  · cases hv

/-- The heap that the initialisers leave meets the condition. -/
theorem door_met (os : Os) (args : Array Value) : laidMetH Tryd.prog laid1 ((World.doorLaid Tryd.prog 14 os).forCall (fun _ _ => 0) ⟨#[], args, []⟩).memory :=
  laidMetH_of_parts3 (fuel := 8) (laidMet_of_run' 8 (by kernel_rfl) (by kernel_rfl)) (by kernel_rfl) (by kernel_rfl)

section
variable {H : Type} {enc : TypeId × Value → H}

/-- A law that lists a variable, and that reads one of the library's own: what is laid, and the world's shape, are both at hand. -/
theorem returns_laid {a : Assume} {C : Checked} {os : Os} {f : FuncId} {fn : Func} {s : ChangeSpec} {conds : List PathCond} {apart fresh handsOn again : Bool} {laid : List (String × DataW Unit)}
    (own : ownKnob C.prog.godebug = none) (started : os.Started) (noInit : C.prog.inits.idxOf? f = none) (hfn : C.prog.funcs[f]? = some fn)
    (witness : ∃ (w : World) (tape : Tape) (i : Input), w.os = os ∧ (w.forCall tape i).Shaped C.prog ∧ i.vars = [] ∧ Input.okWide C.prog (w.forCall tape i) .any w.heap.size f i ∧
      ((s.pre enc C.prog fn conds apart (w.forCall tape i).memory i.args ∧ laidMetH C.prog laid (w.forCall tape i).memory) ∧ sizedMet enc C.prog fn (OpenSpec.ofChange s) apart (w.forCall tape i).memory i.args) ∧ a.holds C.prog (lone (Frame.enter C.prog f i.args .normal) [] (w.forCall tape i)))
    (contract : ∀ (W : World) (base : Nat) (args : Array Value) (ds gs : List (DataW H)) (before : List MemPlace),
      (∀ (j : Nat) t v, fn.params[j]? = some t → args[j]? = some v → Value.okWide C.prog W .any base t v) → DataW.Whole enc C.prog fn.params.toList s.vars apart W args.toList ds gs before →
      laidMetH C.prog laid W → W.ShapedOpen C.prog → Calls C.prog f args W fun e W' => ∃ v, e = .returned v ∧ s.post enc C.prog fn apart fresh handsOn again W args v W') :
    ReturnsInHanded a C os f .any (fun w args => (s.pre enc C.prog fn conds apart w args ∧ laidMetH C.prog laid w) ∧ sizedMet enc C.prog fn (OpenSpec.ofChange s) apart w args) (s.post enc C.prog fn apart fresh handsOn again) := by
  refine returnsInHanded_of_calls own started noInit witness ?_
  intro w tape i _ hsh _ hok hpre _
  obtain ⟨_, _, _, fn', hfn', _, _, _, _, hval⟩ := hok
  obtain rfl : fn' = fn := Option.some.inj (hfn'.symm.trans hfn)
  obtain ⟨⟨⟨ds, gs, before, hw, _⟩, hl⟩, _⟩ := hpre
  refine (contract (w.forCall tape i) w.heap.size i.args ds gs before hval (DataW.Whole.of_heap (w' := w.forCall tape i) (by rfl) hw) (hl.of_heap (by rfl)) hsh).mono fun e W' ⟨v, he, hp⟩ => ?_
  subst he
  exact ChangeSpec.post_blind hp
theorem glob_of {W : World} (hl : laidMetH Tryd.prog laid1 W) (hs : W.ShapedOpen Tryd.prog) : Glob W := ⟨Glob.shaped_int hs, signs_of_laid hl⟩
end
end Go.Proofs.YtfjbmenakcnadaaDoor

/- What a definition is: plain. -/
namespace Go.Proofs.YtfjbmenakcnadaaDoor
namespace Mx

/-- The name of what stands behind the last parameter. -/
def VA : ByteArray := ⟨#[95, 95, 86, 65, 95, 65, 82, 71, 83, 95, 95]⟩
def DF : ByteArray := ⟨#[100, 101, 102, 105, 110, 101, 100]⟩
def LP : ByteArray := ⟨#[40]⟩
def RP : ByteArray := ⟨#[41]⟩
def CM : ByteArray := ⟨#[44]⟩
def EL : ByteArray := ⟨#[46, 46, 46]⟩
def HS : ByteArray := ⟨#[35]⟩
def HH : ByteArray := ⟨#[35, 35]⟩

def isP (t : K) (s : ByteArray) : Bool := t.kind == 5 && decide (t.text = s)

/-- Is a text among these? -/
def has (ps : List ByteArray) (s : ByteArray) : Bool := ps.any fun p => decide (p = s)
theorem has_iff (ps : List ByteArray) (s : ByteArray) : has ps s = true ↔ s ∈ ps := by simp [has]

structure M where
  name : ByteArray
  fn : Bool
  ps : List ByteArray
  va : Bool
  body : List K
def M.zero : M := ⟨ByteArray.empty, false, [], false, []⟩

/-- May a token be one more parameter? -/
def parOk (ps : List ByteArray) (t : K) : Bool := t.kind == 1 && (!decide (t.text = VA) && !has ps t.text)
/-- A list of parameters that is not empty, with what stands behind its bracket. -/
def plist : List ByteArray → List K → Option (List ByteArray × Bool × List K)
  | ps, a :: b :: r =>
    if isP a EL then (if isP b RP then some (ps, true, r) else none)
    else if parOk ps a then
      (if isP b RP then some (ps ++ [a.text], false, r) else if isP b CM then plist (ps ++ [a.text]) r else none)
    else none
  | _, _ => none

/-- Is a token a parameter? -/
def known (ps : List ByteArray) (va : Bool) (t : K) : Bool := t.kind == 1 && (has ps t.text || (va && decide (t.text = VA)))
def hashBad (ps : List ByteArray) (va : Bool) : List K → Bool
  | [] => false
  | [t] => isP t HS
  | t :: u :: r => (isP t HS && !known ps va u) || hashBad ps va (u :: r)
def vaIn (l : List K) : Bool := l.any fun t => t.kind == 1 && decide (t.text = VA)
def bare : List K → List K
  | [] => []
  | t :: r => { t with bl := false } :: r
def pasteBad (l : List K) : Bool := (match l.head? with | some t => isP t HH | none => false) || (match l.getLast? with | some t => isP t HH | none => false)

/-- What is left is a body. -/
def bodyOf (nm : ByteArray) (fn : Bool) (ps : List ByteArray) (va : Bool) (l : List K) : M × Int :=
  if l = [] then (⟨nm, fn, ps, va, []⟩, 0)
  else if pasteBad l then (.zero, 63)
  else if fn && hashBad ps va l then (.zero, 64)
  else if !va && vaIn l then (.zero, 65)
  else (⟨nm, fn, ps, va, bare l⟩, 0)

/-- What stands behind the name: is it a list, with the parameters, and what is left; or the error. -/
def brack (r : List K) : Except Int (Bool × List ByteArray × Bool × List K) :=
  match r with
  | [] => .ok (false, [], false, [])
  | u :: r' =>
    if u.bl then .ok (false, [], false, u :: r')
    else if isP u LP then
      (match r' with
        | [] => .error 61
        | c :: r'' =>
          if isP c RP then .ok (true, [], false, r'')
          else match plist [] (c :: r'') with
            | none => .error 61
            | some (ps, va, l) => .ok (true, ps, va, l))
    else .error 62
def nameOk (t : K) : Bool := t.kind == 1 && (!decide (t.text = DF) && !decide (t.text = VA))
/-- The macro of tokens, or the error. -/
def defi (l : List K) : M × Int :=
  match l with
  | [] => (.zero, 60)
  | t :: r =>
    if nameOk t then
      match brack r with
      | .error e => (.zero, e)
      | .ok (fn, ps, va, b) => bodyOf t.text fn ps va b
    else (.zero, 60)
end Mx
end Go.Proofs.YtfjbmenakcnadaaDoor

/- What is proved: what Tokens tells of any text: its tokens, in new memory. -/
namespace Go.Proofs.YtfjbmenakcnadaaDoor
open Go.RowKit Go.Shelf
open Lx (T)

theorem extract_list (s : ByteArray) (a b : Nat) : s.extract a b = ⟨((s.data.toList.drop a).take (b - a)).toArray⟩ := by
  apply ByteArray.ext
  apply Array.toList_inj.1
  rw [Lib.extract_data]

theorem row_below {W W' : World} {base e sz n : Nat} {v : Value} {cs : List Value} (h : W.ownsRow base e sz v n cs) (hb : Below W.heap.size W W') : W'.ownsRow base e sz v n cs := by
  refine ⟨h.1, ?_⟩
  rcases h.2 with h' | ⟨g, cap, cur, h', h1, h2, h3⟩
  · exact .inl h'
  · exact .inr ⟨g, cap, cur, h', h1, (hb.block g (Array.getElem?_eq_some_iff.1 h2).1).trans h2, h3⟩

set_option maxRecDepth 100000 in
set_option maxHeartbeats 8000000 in
theorem tokens_any (f : Int) (s : ByteArray) (hs : s.size ≤ 1000000000) (w : World) (hG : Glob w) :
    Calls Tryd.prog 23 #[.int .i64 f, .string s] w (ToksPost w f (Lx.tk false (Sp.left 0 s.data.toList))) := by
  obtain ⟨i0, hi, hz0, hz1, hz2⟩ := info_parts infoTok
  have HG := Lib.hid hG
  clear hG
  have hll := Sp.left_le 0 s.data.toList
  rw [size_list] at hll
  obtain ⟨l, hl⟩ : ∃ l, l = Sp.left 0 s.data.toList := ⟨_, rfl⟩
  rw [← hl] at hll ⊢
  have HL := Lib.hid hl
  have HP : Hid (∀ x ∈ l, x.2 < s.size) := Lib.hid (fun x hx => by rw [hl] at hx; have := Sp.left_lt hx; rw [size_list] at this; omega)
  clear hl
  go_enter Tryd.func23, Tryd.ntmps23
  go_wp2_with fail
  refine (join_any s (by omega) _ HG.out).mono ?_
  rintro e w1 ⟨cv, rfl, hcv, hB1⟩
  rw [← HL.out] at hcv
  obtain ⟨ad, cap, rfl, hc1, hc2, -⟩ := id hcv
  unfold maxLen at hc2
  go_wp2_with fail
  refine (text_any _ l _ hcv (by omega)).mono ?_
  rintro e w2 ⟨rfl, hB2⟩
  replace hcv := hcv.below hB2
  replace hB2 : Below w.heap.size w w2 := Below.trans hB1 (hB2.mono hB1.size)
  have hG2 := Lib.hid (HG.out.later hB2)
  obtain ⟨S, hS⟩ : ∃ S : ByteArray, S = ⟨(l.map Prod.fst).toArray⟩ := ⟨_, rfl⟩
  have hSl : S.data.toList = Lx.bytes l := by rw [hS]; rfl
  have hSz : S.size = l.length := by rw [hS, mk_size]; simp
  rw [← hS]
  rw [← hSz] at hll hc1 hcv ⊢
  have Hn := Lib.hid hSz
  have HS := Lib.hid hSl
  have HC := Lib.hid hcv
  have HB2 := Lib.hid hB2
  clear hS hSl hSz hcv hB1 hB2
  go_wp2_with fail
  go_loopw [7, 8, 9] (fun o p a wr => ∃ (k : Nat) (P : Bool) (acc : List T), a = .int .i64 k ∧ p = .bool P ∧ Sofar l k P acc ∧ wr.ownsRow w2.heap.size 39 6 o acc.length (tokCells f acc) ∧ Below w2.heap.size w2 wr) (fun _ _ a _ => S.size - (intOf a).toNat)
  case atStart => exact ⟨0, false, [], rfl, rfl, sofar_start _, World.ownsRow_nil _ _ _ _, Below.refl _ _⟩
  case round =>
    obtain ⟨k, P, acc, rfl, rfl, hsf, hrow, hB⟩ := hrel
    have hkl := hsf.1
    have hal := hsf.2.1
    rw [← Hn.out] at hkl
    by_cases hlt : k < S.size
    · have hlt' : k < l.length := by rw [← Hn.out]; exact hlt
      obtain ⟨B, hBk⟩ : ∃ B, B = Lx.blankLen (Lx.bytes (l.drop k)) := ⟨_, rfl⟩
      have HBk := Lib.hid hBk
      have hGr := Lib.hid (hG2.out.later hB)
      by_cases hb : 0 < B
      · obtain ⟨h1, h2⟩ := sofar_blank hsf (by rw [← hBk]; exact hb)
        rw [← hBk, ← Hn.out] at h1
        rw [← hBk] at h2
        clear hBk
        go_wp2_with fail
        refine (blank_any _ (by simp; omega) (by simp; omega) _ hGr.out).mono ?_
        rintro e w' ⟨rfl, rfl⟩
        rw [Lib.extract_to_end, HS.out, ← Lx.bytes_drop, ← HBk.out]
        go_wp2_with fail
        go_roundw
        case rel => exact ⟨k + B, true, acc, by go_num, rfl, h2, hrow, hB⟩
        case measure => simp [intOf]; omega
      · have hb0 : B = 0 := by omega
        obtain ⟨h1, h2, h3⟩ := sofar_tok hsf hlt' (by rw [← hBk]; exact hb0)
        obtain ⟨q, hq⟩ : ∃ q, q = Lx.first (Lx.bytes (l.drop k)) := ⟨_, rfl⟩
        obtain ⟨t, ht⟩ : ∃ t, t = Lx.tokAt P (l.drop k) := ⟨_, rfl⟩
        have htk : t.kind = q.1 := by rw [ht, hq]; rfl
        have htt : t.text = (Lx.bytes (l.drop k)).take q.2 := by rw [ht, hq]; rfl
        have htb : t.bl = P := by rw [ht]; rfl
        have htf : t.fr = (l.getD k (0, 0)).2 := by rw [ht]; unfold Lx.tokAt; simp [List.getD_eq_getElem?_getD]
        have hto : t.to = (l.getD (k + (q.2 - 1)) (0, 0)).2 + 1 := by rw [ht, hq]; unfold Lx.tokAt; simp [List.getD_eq_getElem?_getD]
        rw [← hq] at h1 h2 h3
        rw [← ht] at h3
        rw [← Hn.out] at h2
        obtain ⟨kd, m⟩ := q
        dsimp only at h1 h2 h3 htk htt hto
        have hxk : l[k]? = some (l.getD k (0, 0)) := by rw [List.getD_eq_getElem?_getD, List.getElem?_eq_getElem hlt']; rfl
        have hjl : k + (m - 1) < l.length := by rw [← Hn.out]; omega
        have hxj : l[k + (m - 1)]? = some (l.getD (k + (m - 1)) (0, 0)) := by rw [List.getD_eq_getElem?_getD, List.getElem?_eq_getElem hjl]; rfl
        have hpj := HP.out _ (List.mem_of_getElem? hxj)
        obtain ⟨g, o, had, -, -, -, hg, hcell⟩ := HC.out.cells (by omega)
        have c1 := (hcell k _ hxk).2
        have c2 := (hcell _ _ hxj).2
        rw [← htf] at c1
        obtain ⟨tl, htl⟩ : ∃ tl, tl = (l.getD (k + (m - 1)) (0, 0)).2 := ⟨_, rfl⟩
        rw [← htl] at c2 hto hpj
        subst had
        have HQ := Lib.hid hq
        have H3 := Lib.hid h3
        have HTk := Lib.hid htk
        have HTt := Lib.hid htt
        have HTo := Lib.hid hto
        have HTb := Lib.hid htb
        obtain ⟨j, hj⟩ : ∃ j, j = k + (m - 1) := ⟨_, rfl⟩
        rw [← hj] at c2
        have Hj := Lib.hid hj
        obtain ⟨fr, hfr⟩ : ∃ fr, fr = t.fr := ⟨_, rfl⟩
        rw [← hfr] at c1
        have HFr := Lib.hid hfr
        clear hq ht htk htt htb htf hto h3 hxk hjl hxj hcell htl hBk hfr hsf hj
        go_wp2_with fail
        refine (blank_any _ (by simp; omega) (by simp; omega) _ hGr.out).mono ?_
        rintro e w' ⟨rfl, rfl⟩
        rw [Lib.extract_to_end, HS.out, ← Lx.bytes_drop, ← HBk.out]
        go_wp2_with fail
        refine (first_any _ (by simp; omega) (by simp; omega) _ hGr.out).mono ?_
        rintro e w3 ⟨rfl, hB3⟩
        rw [Lib.extract_to_end, HS.out, ← Lx.bytes_drop, ← HQ.out]
        replace hrow := row_below hrow hB3
        replace hB3 : Below w2.heap.size w2 w3 := hB.trans (hB3.mono hB.size)
        have d1 : w3.cell? ⟨g, o + k * 2 + 1, none⟩ = some (.int .i64 fr) := (hB3.cell (p := ⟨g, o + k * 2 + 1, none⟩) hg).trans c1
        have d2 : w3.cell? ⟨g, o + j * 2 + 1, none⟩ = some (.int .i64 tl) := (hB3.cell (p := ⟨g, o + j * 2 + 1, none⟩) hg).trans c2
        clear hB c1 c2
        go_wp2_with fail
        have ag : u7.ownBlock ≠ some g := fun e => by have := (hrow.lt g e).1; omega
        have hw3 := hB3.size
        have z0 : (0 : Int) ≤ k := by omega
        have z1 : (k : Int) < S.size := by omega
        have z2 : (k : Int) ≤ (k : Int) + m := by omega
        have z3 : (k : Int) + m ≤ S.size := by omega
        have z4 : (0 : Int) ≤ (j : Int) := by omega
        have z5 : (j : Int) < S.size := by have := Hj.out; omega
        have z6 : (0 : Int) ≤ (k : Int) + m := by omega
        have hbb : (acc.length + 1) * 56 ≤ 140737488355328 := by omega
        have hmx : acc.length + 1 ≤ maxLen := by unfold maxLen; omega
        have e4 : ((k : Int) + m).toNat = k + m := by omega
        have e1 : IntKind.i64.wrap ((k : Int) + m) = (k : Int) + m := IntWalk.i64_in _ (by omega)
        have e2 : IntKind.i64.wrap ((k : Int) + m - 1) = (j : Int) := by rw [IntWalk.i64_in _ (by omega)]; have := Hj.out; omega
        have e3 : IntKind.i64.wrap ((tl : Int) + 1) = (tl : Int) + 1 := IntWalk.i64_in _ (by omega)
        go_region_held3 (fun w' => w'.cell? ⟨g, o + k * 2 + 1, none⟩ = some (.int .i64 fr) ∧ w'.cell? ⟨g, o + j * 2 + 1, none⟩ = some (.int .i64 tl))
          (first
            | go_keep
            | (go_split_ands
               refine ⟨?_, ?_⟩
               · (rw [hgrow.cell_far _ (by simp; omega) (Ne.symm ag)]; assumption)
               · (rw [hgrow.cell_far _ (by simp; omega) (Ne.symm ag)]; assumption)))
          ((refine step_append_lies _ (by rfl) _ _ _ (by rfl) w2.heap.size 39 i0 _ 6 56 Tryd.underlying24 hi hz0 hz1 hz2 rfl (by omega) u7 acc.length (tokCells f acc) (by rfl) ((hrow.alloc _).drew)
              ⟨w3.heap.size, 0, none⟩ 1 1 [.int .i64 kd, .string (S.extract k (k + m)), .int .i64 f, .int .i64 fr, .int .i64 ((tl : Int) + 1), .bool P] (by rfl) (by rfl) (World.news_of_block (cs := #[.int .i64 kd, .string (S.extract k (k + m)), .int .i64 f, .int .i64 fr, .int .i64 ((tl : Int) + 1), .bool P]) (t := 39) (fr := (0, 0)) (heap_alloc_new w3 _)) (by simp [Value.oneCell'])
              (by omega) hmx hbb (by simp; omega) (w3.heap.size + 1) (by simp) ?_; intro gg cap' w4 hown1 hgrow hat hlt4))
        clear e1 e2 e3 e4
        go_wp2_with fail
        go_roundw
        case rel =>
          refine ⟨k + m, false, acc ++ [t], by go_num, rfl, H3.out, ?_, ?_⟩
          · have hx : S.extract k (k + m) = ⟨t.text.toArray⟩ := by rw [extract_list, HS.out, ← Lx.bytes_drop, HTt.out, show k + m - k = m by omega]
            have hc : tokCells f (acc ++ [t]) = tokCells f acc ++ [.int .i64 kd, .string (S.extract k (k + m)), .int .i64 f, .int .i64 fr, .int .i64 ((tl : Int) + 1), .bool P] := by
              rw [tokCells_append, hx, HFr.out, show ((tl : Int) + 1) = ((t.to : Nat) : Int) by rw [HTo.out]; rfl, ← HTb.out, ← HTk.out]
              simp [tokCells, cellsOne]
            rw [hc, List.length_append]
            exact hown1
          · exact ((hB3.alloc hw3 _).drew).grown hgrow (by simp; omega) (fun i ei => (hrow.lt i ei).1)
        case measure => simp [intOf]; omega
    · have he := sofar_end hsf (by rw [← Hn.out]; omega)
      go_wp2_with fail
      go_ret
      rw [← he]
      exact ⟨_, rfl, Toks.of_row hrow, HB2.out.trans (hB.mono HB2.out.size)⟩
end Go.Proofs.YtfjbmenakcnadaaDoor
