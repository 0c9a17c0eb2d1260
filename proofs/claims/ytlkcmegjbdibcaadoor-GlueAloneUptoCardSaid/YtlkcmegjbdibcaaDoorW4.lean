/- What is proved: what first tells of a text: the kind and the length of its first token. -/
import Derived.Test.YtlkcmegjbdibcaaDoorW3
namespace Go.Proofs.YtlkcmegjbdibcaaDoor
open Go.RowKit Go.Shelf

/-- A kind and a length. -/
def Pair (w : World) (p : Nat × Nat) (e : Ending) (w' : World) : Prop := e = .returned (.tuple #[.int .i64 p.1, .int .i64 p.2]) ∧ Below w.heap.size w w'

theorem head_yes (s : ByteArray) (h : 1 < s.size) : Lx.headDigit (s.data.toList.drop 1) = Lx.digit s[1] := by
  rw [drop_at s 1 h]; rfl
theorem head_no (s : ByteArray) (h : ¬ 1 < s.size) : Lx.headDigit (s.data.toList.drop 1) = false := by
  rw [drop_end s 1 (by omega)]; rfl

set_option maxHeartbeats 4000000 in
set_option maxRecDepth 100000 in
theorem first_any (s : ByteArray) (hs : s.size ≤ 4000000000) (h0 : 0 < s.size) (w : World) (hG : Glob w) : Calls Tryd.prog 31 #[.string s] w (Pair w (Lx.first s.data.toList)) := by
  have hd0 := drop_at s 0 h0
  rw [List.drop_zero, show 0 + 1 = 1 from rfl] at hd0
  have hf := Lx.first_cons s[0] (s.data.toList.drop 1)
  have hnl := Lx.numLen_cons s[0] (s.data.toList.drop 1)
  rw [← hd0] at hf hnl
  have b1 := (Lx.closedLen_le 34 s.data.toList).1
  have b2 := (Lx.closedLen_le 39 s.data.toList).1
  have hsg := Lx.signLen_le s.data.toList
  rw [size_list] at b1 b2 hsg
  obtain ⟨P, hP⟩ : ∃ P, P = Lx.first s.data.toList := ⟨_, rfl⟩
  rw [← hP] at hf ⊢
  clear hP
  obtain ⟨A, hA⟩ : ∃ A, A = Lx.closedLen 34 s.data.toList := ⟨_, rfl⟩
  obtain ⟨B, hB'⟩ : ∃ B, B = Lx.closedLen 39 s.data.toList := ⟨_, rfl⟩
  obtain ⟨C, hC⟩ : ∃ C, C = Lx.signLen s.data.toList := ⟨_, rfl⟩
  rw [← hA, ← hB', ← hC] at hf
  rw [← hA] at b1
  rw [← hB'] at b2
  rw [← hC] at hsg
  have HA := Lib.hid hA
  have HB := Lib.hid hB'
  have HC := Lib.hid hC
  clear hA hB' hC
  have HG := Lib.hid hG
  clear hG
  by_cases hA : s[0] = 10
  · rw [if_pos hA] at hf
    have t1 : ((s[0].toNat : Int) == 10) = true := u8_eq hA
    subst hf
    clear hA hd0 hnl
    go_enter Tryd.func31, Tryd.ntmps31
    go_wp2_with fail
    go_ret2
    exact ⟨rfl, Below.refl _ _⟩
  · rw [if_neg hA] at hf
    have t1 : ((s[0].toNat : Int) == 10) = false := u8_ne hA
    clear hA
    cases hB : Lx.letter s[0] with
    | true =>
      rw [if_pos hB] at hf
      subst hf
      clear hd0 hnl
      go_enter Tryd.func31, Tryd.ntmps31
      go_wp2_with (first | (go_at_call 39; refine (letter_any _ _).mono ?_; rintro e w' ⟨rfl, rfl⟩) | (go_at_call 40; refine (name_any s hs _).mono ?_; rintro e w' ⟨rfl, rfl⟩))
      go_ret2
      exact ⟨rfl, Below.refl _ _⟩
    | false =>
      rw [if_neg (by rw [hB]; simp)] at hf
      have t46 := u8_beq s[0] 46
      rw [show ((46 : UInt8).toNat : Int) = 46 from rfl] at t46
      rw [t46] at hnl
      by_cases hN : (Lx.digit s[0] || (((s[0].toNat : Int) == 46) && Lx.headDigit (s.data.toList.drop 1))) = true
      · rw [if_pos hN] at hnl
        rw [hnl, if_pos (by omega)] at hf
        have hcase : Lx.digit s[0] = true ∨ (Lx.digit s[0] = false ∧ ((s[0].toNat : Int) == 46) = true ∧ ∃ h : 1 < s.size, Lx.digit s[1] = true) := by
          cases hD : Lx.digit s[0] with
          | true => exact .inl rfl
          | false =>
            rw [hD, Bool.false_or, Bool.and_eq_true] at hN
            refine .inr ⟨rfl, hN.1, ?_⟩
            by_cases h1 : 1 < s.size
            · exact ⟨h1, by rw [← head_yes s h1]; exact hN.2⟩
            · have := hN.2; rw [head_no s h1] at this; cases this
        obtain ⟨M, hM⟩ : ∃ M, M = 1 + Lx.numRest (s.data.toList.drop 1) := ⟨_, rfl⟩
        rw [← hM] at hf
        have HM := Lib.hid hM
        subst hf
        clear hd0 hnl hN t46 hM
        rcases hcase with h1 | ⟨h1, h2, h3, h4⟩
        all_goals
          go_enter Tryd.func31, Tryd.ntmps31
          go_wp2_with (first | (go_at_call 39; refine (letter_any _ _).mono ?_; rintro e w' ⟨rfl, rfl⟩) | (go_at_call 41; refine (digit_any _ _).mono ?_; rintro e w' ⟨rfl, rfl⟩) | (go_at_call 42; refine (number_any s hs h0 _).mono ?_; rintro e w' ⟨rfl, rfl⟩; rw [← HM.out]))
          go_ret2
          exact ⟨rfl, Below.refl _ _⟩
      · rw [if_neg hN] at hnl
        rw [hnl, if_neg (by omega)] at hf
        have hcase : (Lx.digit s[0] = false ∧ ((s[0].toNat : Int) == 46) = false) ∨ (Lx.digit s[0] = false ∧ ((s[0].toNat : Int) == 46) = true ∧ ¬ 1 < s.size) ∨ (Lx.digit s[0] = false ∧ ((s[0].toNat : Int) == 46) = true ∧ ∃ h : 1 < s.size, Lx.digit s[1] = false) := by
          cases hD : Lx.digit s[0] with
          | true => rw [hD] at hN; simp at hN
          | false =>
            rw [hD, Bool.false_or] at hN
            cases h46 : ((s[0].toNat : Int) == 46) with
            | false => exact .inl ⟨rfl, rfl⟩
            | true =>
              rw [h46, Bool.true_and] at hN
              by_cases h1 : 1 < s.size
              · rw [head_yes s h1] at hN
                exact .inr (.inr ⟨rfl, rfl, h1, by simpa using hN⟩)
              · exact .inr (.inl ⟨rfl, rfl, h1⟩)
        clear hd0 hnl hN t46
        by_cases hA0 : 0 < A
        · rw [if_pos hA0] at hf
          subst hf
          rcases hcase with ⟨h1, h2⟩ | ⟨h1, h2, h3⟩ | ⟨h1, h2, h3, h4⟩
          all_goals try (exfalso; omega)
          all_goals
            go_enter Tryd.func31, Tryd.ntmps31
            go_wp2_with (first | (go_at_call 39; refine (letter_any _ _).mono ?_; rintro e w' ⟨rfl, rfl⟩) | (go_at_call 41; refine (digit_any _ _).mono ?_; rintro e w' ⟨rfl, rfl⟩))
            refine (closed_any s hs h0 34 (by decide) (by decide) _).mono ?_
            rintro e w' ⟨rfl, rfl⟩
            rw [← HA.out]
            go_wp2_with fail
            go_ret2
            exact ⟨rfl, Below.refl _ _⟩
        · rw [if_neg hA0] at hf
          by_cases hB2 : 2 < B
          · rw [if_pos hB2] at hf
            subst hf
            rcases hcase with ⟨h1, h2⟩ | ⟨h1, h2, h3⟩ | ⟨h1, h2, h3, h4⟩
            all_goals try (exfalso; omega)
            all_goals
              go_enter Tryd.func31, Tryd.ntmps31
              go_wp2_with (first | (go_at_call 39; refine (letter_any _ _).mono ?_; rintro e w' ⟨rfl, rfl⟩) | (go_at_call 41; refine (digit_any _ _).mono ?_; rintro e w' ⟨rfl, rfl⟩))
              refine (closed_any s hs h0 34 (by decide) (by decide) _).mono ?_
              rintro e w' ⟨rfl, rfl⟩
              rw [← HA.out]
              go_wp2_with fail
              refine (closed_any s hs h0 39 (by decide) (by decide) _).mono ?_
              rintro e w' ⟨rfl, rfl⟩
              rw [← HB.out]
              go_wp2_with fail
              go_ret2
              exact ⟨rfl, Below.refl _ _⟩
          · rw [if_neg hB2] at hf
            by_cases hC0 : 0 < C
            · rw [if_pos hC0] at hf
              subst hf
              rcases hcase with ⟨h1, h2⟩ | ⟨h1, h2, h3⟩ | ⟨h1, h2, h3, h4⟩
              all_goals try (exfalso; omega)
              all_goals
                go_enter Tryd.func31, Tryd.ntmps31
                go_wp2_with (first | (go_at_call 39; refine (letter_any _ _).mono ?_; rintro e w' ⟨rfl, rfl⟩) | (go_at_call 41; refine (digit_any _ _).mono ?_; rintro e w' ⟨rfl, rfl⟩))
                refine (closed_any s hs h0 34 (by decide) (by decide) _).mono ?_
                rintro e w' ⟨rfl, rfl⟩
                rw [← HA.out]
                go_wp2_with fail
                refine (closed_any s hs h0 39 (by decide) (by decide) _).mono ?_
                rintro e w' ⟨rfl, rfl⟩
                rw [← HB.out]
                go_wp2_with fail
                refine (sign_any s hs _ HG.out).mono ?_
                rintro e w' ⟨rfl, hB⟩
                rw [← HC.out]
                go_wp2_with fail
                go_ret2
                exact ⟨rfl, hB⟩
            · rw [if_neg hC0] at hf
              subst hf
              rcases hcase with ⟨h1, h2⟩ | ⟨h1, h2, h3⟩ | ⟨h1, h2, h3, h4⟩
              all_goals try (exfalso; omega)
              all_goals
                go_enter Tryd.func31, Tryd.ntmps31
                go_wp2_with (first | (go_at_call 39; refine (letter_any _ _).mono ?_; rintro e w' ⟨rfl, rfl⟩) | (go_at_call 41; refine (digit_any _ _).mono ?_; rintro e w' ⟨rfl, rfl⟩))
                refine (closed_any s hs h0 34 (by decide) (by decide) _).mono ?_
                rintro e w' ⟨rfl, rfl⟩
                rw [← HA.out]
                go_wp2_with fail
                refine (closed_any s hs h0 39 (by decide) (by decide) _).mono ?_
                rintro e w' ⟨rfl, rfl⟩
                rw [← HB.out]
                go_wp2_with fail
                refine (sign_any s hs _ HG.out).mono ?_
                rintro e w' ⟨rfl, hB⟩
                rw [← HC.out]
                go_wp2_with fail
                go_ret2
                exact ⟨rfl, hB⟩
end Go.Proofs.YtlkcmegjbdibcaaDoor
