/- What is proved: the law BddWrong answers true, whatever the names, the ops and the three numbers. -/
import Derived.Test.YthhcahojbgcihaaTh
import Derived.Test.YthhcahojbgcihaaBad
namespace Go.Proofs.Ythhcahojbgcihaa
open Go.RowKit Bd

set_option maxHeartbeats 8000000 in
set_option maxRecDepth 100000 in
theorem wrong_any (v : Int) (Ad : Option Addr) (k cap : Nat) (F : Nat → OpV) (w : World) (hO : OpsAt w Ad k F) (nn ii ss : Int) :
    Calls Try.prog 5 #[.int .i64 v, .slice Ad k cap, .int .i64 nn, .int .i64 ii, .int .i64 ss] w fun e w' => e = .returned (.bool true) ∧ Below w.heap.size w w' := by
  have HO := Lib.hid hO
  clear hO
  by_cases hk10 : (10 : Int) < (k : Int)
  · go_enter Try.func5, Try.ntmps5
    go_wp2_with fail
    refine (awake_any w).mono ?_
    rintro e w1 ⟨rfl, hb1⟩
    go_wp2_with fail
    go_ret
    exact ⟨rfl, hb1⟩
  go_enter Try.func5, Try.ntmps5
  go_wp2_with fail
  refine (awake_any w).mono ?_
  rintro e w1 ⟨rfl, hb1⟩
  go_wp2_with fail
  refine (built_any v Ad k cap F w1 (HO.out.below hb1)).mono ?_
  rintro e w2 (⟨hv, rfl, hb2⟩ | ⟨vars, q, p, m, i, rfl, hi, ⟨sv, lv, tv, ds, n, X, T, G, hD, hn, hds, hb2⟩, rfl⟩)
  · have HN := Lib.hid (new_no v (by omega) w2)
    clear hv
    go_wp2_with fail
    refine (HN.out).mono ?_
    rintro e w3 ⟨rfl, rfl⟩
    go_wp2_with fail
    go_ret
    exact ⟨rfl, hb1.trans (hb2.mono hb1.size)⟩
  have v8 := hD.ar.v8
  have hp8 := pow8 v8
  have z0 := hD.c0
  have hp : ((2 ^ vars : Nat) : Int) = 2 ^ vars := by simp
  have k4 : (vars : Int) ≤ 64 := by omega
  have k6 : IntKind.i64.wrap ((2 : Int) ^ vars) = 2 ^ vars := by
    rw [← hp]
    exact wrapped _ (by omega)
  have HP := Lib.hid hp
  clear hp
  by_cases hin : 0 ≤ ii ∧ ii < (vars : Int)
  · obtain ⟨j, rfl⟩ := Int.eq_ofNat_of_zero_le hin.1
    have hj : j < vars := by omega
    have hj' : (j : Int) < (vars : Int) := by omega
    by_cases hs : 0 ≤ ss ∧ ss < 2 ^ vars
    · obtain ⟨t, rfl⟩ := Int.eq_ofNat_of_zero_le hs.1
      have ht : t < 2 ^ vars := by have := HP.out; have := hs.2; omega
      have hs' : decide ((t : Int) < 2 ^ vars) = true := by simp only [decide_eq_true_iff]; exact hs.2
      clear hs hin
      go_wp2_with fail
      refine (varH hD.ar j hj (by omega)).mono ?_
      rintro e W1 ⟨xx, ds1, sv1, hx1, K1, l1, rfl, hA1, F1⟩
      have hD1 := hD.fr hA1 F1 K1
      have hb3 := hb2.trans (F1.base hD.ar)
      clear z0
      have z0 := hD1.c0
      go_wp2_with fail
      refine (restrictH hD1.ar (Has.always _) j true hj (by omega)).mono ?_
      rintro e W2 ⟨rr, ds2, sv2, hr2, K2, l2, rfl, hA2, F2⟩
      have hD2 := hD1.fr hA2 F2 K2
      have hb4 := hb3.trans (F2.base hD1.ar)
      clear z0
      have z0 := hD2.c0
      go_wp2_with fail
      refine (holdsH hD2.ar (Has.always _) t ht).mono ?_
      rintro e W3 ⟨rfl, hc3⟩
      have hD3 := hD2.below hc3
      have hb5 := hb4.trans (hc3.mono hb4.size)
      clear z0
      have z0 := hD3.c0
      by_cases hneg : nn < 0
      · have hneg' : decide (0 ≤ nn) = false := by simp; omega
        go_wp2_with fail
        refine (not_bad hD3.ar nn hneg).mono ?_
        rintro e W4 ⟨rfl, hc4⟩
        have hD4 := hD3.below hc4
        have hb7 := hb5.trans (hc4.mono hb5.size)
        clear z0
        have z0 := hD4.c0
        go_wp2_with fail
        refine (and_bad hD4.ar 1 nn (.inr hneg)).mono ?_
        rintro e W5 ⟨rfl, hc5⟩
        have hD5 := hD4.below hc5
        have hb8 := hb7.trans (hc5.mono hb7.size)
        clear z0
        have z0 := hD5.c0
        go_wp2_with fail
        refine (or_bad hD5.ar nn 0 (.inl hneg)).mono ?_
        rintro e W6 ⟨rfl, hc6⟩
        have hD6 := hD5.below hc6
        have hb9 := hb8.trans (hc6.mono hb8.size)
        clear z0
        have z0 := hD6.c0
        go_wp2_with fail
        refine (xor_bad hD6.ar 0 nn (.inr hneg)).mono ?_
        rintro e W7 ⟨rfl, hc7⟩
        have hD7 := hD6.below hc7
        have hb10 := hb9.trans (hc7.mono hb9.size)
        clear z0
        have z0 := hD7.c0
        go_wp2_with fail
        refine (ite_bad hD7.ar 1 0 nn hneg).mono ?_
        rintro e W8 ⟨rfl, hc8⟩
        have hD8 := hD7.below hc8
        have hb11 := hb10.trans (hc8.mono hb10.size)
        clear z0
        have z0 := hD8.c0
        go_wp2_with fail
        refine (restrict_bad hD8.ar nn (j : Int) true hneg).mono ?_
        rintro e W9 ⟨rfl, hc9⟩
        have hD9 := hD8.below hc9
        have hb12 := hb11.trans (hc9.mono hb11.size)
        clear z0
        have z0 := hD9.c0
        go_wp2_with fail
        refine (holds_bad hD9.ar nn (t : Int) hneg).mono ?_
        rintro e W10 ⟨rfl, hc10⟩
        have hD10 := hD9.below hc10
        have hb13 := hb12.trans (hc10.mono hb12.size)
        clear z0
        have z0 := hD10.c0
        go_wp2_with fail
        refine (sat_bad hD10.ar nn hneg).mono ?_
        rintro e W11 ⟨rfl, hc11⟩
        have hD11 := hD10.below hc11
        have hb14 := hb13.trans (hc11.mono hb13.size)
        clear z0
        have z0 := hD11.c0
        go_wp2_with fail
        refine (count_bad hD11.ar nn hneg).mono ?_
        rintro e W12 ⟨rfl, hc12⟩
        have hD12 := hD11.below hc12
        have hb15 := hb14.trans (hc12.mono hb14.size)
        clear z0
        have z0 := hD12.c0
        go_wp2_with fail
        refine (only_bad hD12.ar nn hneg).mono ?_
        rintro e W13 ⟨rfl, hc13⟩
        have hD13 := hD12.below hc13
        have hb16 := hb15.trans (hc13.mono hb15.size)
        clear z0
        have z0 := hD13.c0
        go_wp2_with fail
        go_ret
        exact ⟨rfl, hb1.trans (hb16.mono hb1.size)⟩
      · have hneg' : decide (0 ≤ nn) = true := by simp; omega
        go_wp2_with fail
        go_ret
        exact ⟨rfl, hb1.trans (hb5.mono hb1.size)⟩
    · have hs1 : decide (0 ≤ ss) = true ∧ decide (ss < 2 ^ vars) = false ∨ decide (0 ≤ ss) = false := by
        by_cases h0 : 0 ≤ ss
        · left; exact ⟨by simpa using h0, by simp only [decide_eq_false_iff_not]; intro h; exact hs ⟨h0, h⟩⟩
        · right; simpa using h0
      have HS := Lib.hid hs1
      have HS0 := Lib.hid hs
      clear hin hs1 hs
      go_wp2_with fail
      refine (varH hD.ar j hj (by omega)).mono ?_
      rintro e W1 ⟨xx, ds1, sv1, hx1, K1, l1, rfl, hA1, F1⟩
      have hD1 := hD.fr hA1 F1 K1
      have hb3 := hb2.trans (F1.base hD.ar)
      clear z0
      have z0 := hD1.c0
      go_wp2_with fail
      refine (restrictH hD1.ar (Has.always _) j true hj (by omega)).mono ?_
      rintro e W2 ⟨rr, ds2, sv2, hr2, K2, l2, rfl, hA2, F2⟩
      have hD2 := hD1.fr hA2 F2 K2
      have hb4 := hb3.trans (F2.base hD1.ar)
      clear z0
      have z0 := hD2.c0
      go_wp2_with fail
      refine (holds_arg hD2.ar 1 ss (by omega) HS0.out).mono ?_
      rintro e W3 ⟨rfl, hc3⟩
      have hD3 := hD2.below hc3
      have hb5 := hb4.trans (hc3.mono hb4.size)
      clear z0
      have z0 := hD3.c0
      rcases HS.out with ⟨g1, g2⟩ | g1
      · by_cases hneg : nn < 0
        · have hneg' : decide (0 ≤ nn) = false := by simp; omega
          go_wp2_with fail
          refine (not_bad hD3.ar nn hneg).mono ?_
          rintro e W4 ⟨rfl, hc4⟩
          have hD4 := hD3.below hc4
          have hb7 := hb5.trans (hc4.mono hb5.size)
          clear z0
          have z0 := hD4.c0
          go_wp2_with fail
          refine (and_bad hD4.ar 1 nn (.inr hneg)).mono ?_
          rintro e W5 ⟨rfl, hc5⟩
          have hD5 := hD4.below hc5
          have hb8 := hb7.trans (hc5.mono hb7.size)
          clear z0
          have z0 := hD5.c0
          go_wp2_with fail
          refine (or_bad hD5.ar nn 0 (.inl hneg)).mono ?_
          rintro e W6 ⟨rfl, hc6⟩
          have hD6 := hD5.below hc6
          have hb9 := hb8.trans (hc6.mono hb8.size)
          clear z0
          have z0 := hD6.c0
          go_wp2_with fail
          refine (xor_bad hD6.ar 0 nn (.inr hneg)).mono ?_
          rintro e W7 ⟨rfl, hc7⟩
          have hD7 := hD6.below hc7
          have hb10 := hb9.trans (hc7.mono hb9.size)
          clear z0
          have z0 := hD7.c0
          go_wp2_with fail
          refine (ite_bad hD7.ar 1 0 nn hneg).mono ?_
          rintro e W8 ⟨rfl, hc8⟩
          have hD8 := hD7.below hc8
          have hb11 := hb10.trans (hc8.mono hb10.size)
          clear z0
          have z0 := hD8.c0
          go_wp2_with fail
          refine (restrict_bad hD8.ar nn (j : Int) true hneg).mono ?_
          rintro e W9 ⟨rfl, hc9⟩
          have hD9 := hD8.below hc9
          have hb12 := hb11.trans (hc9.mono hb11.size)
          clear z0
          have z0 := hD9.c0
          go_wp2_with fail
          refine (holds_bad hD9.ar nn ss hneg).mono ?_
          rintro e W10 ⟨rfl, hc10⟩
          have hD10 := hD9.below hc10
          have hb13 := hb12.trans (hc10.mono hb12.size)
          clear z0
          have z0 := hD10.c0
          go_wp2_with fail
          refine (sat_bad hD10.ar nn hneg).mono ?_
          rintro e W11 ⟨rfl, hc11⟩
          have hD11 := hD10.below hc11
          have hb14 := hb13.trans (hc11.mono hb13.size)
          clear z0
          have z0 := hD11.c0
          go_wp2_with fail
          refine (count_bad hD11.ar nn hneg).mono ?_
          rintro e W12 ⟨rfl, hc12⟩
          have hD12 := hD11.below hc12
          have hb15 := hb14.trans (hc12.mono hb14.size)
          clear z0
          have z0 := hD12.c0
          go_wp2_with fail
          refine (only_bad hD12.ar nn hneg).mono ?_
          rintro e W13 ⟨rfl, hc13⟩
          have hD13 := hD12.below hc13
          have hb16 := hb15.trans (hc13.mono hb15.size)
          clear z0
          have z0 := hD13.c0
          go_wp2_with fail
          go_ret
          exact ⟨rfl, hb1.trans (hb16.mono hb1.size)⟩
        · have hneg' : decide (0 ≤ nn) = true := by simp; omega
          go_wp2_with fail
          go_ret
          exact ⟨rfl, hb1.trans (hb5.mono hb1.size)⟩
      · by_cases hneg : nn < 0
        · have hneg' : decide (0 ≤ nn) = false := by simp; omega
          go_wp2_with fail
          refine (not_bad hD3.ar nn hneg).mono ?_
          rintro e W4 ⟨rfl, hc4⟩
          have hD4 := hD3.below hc4
          have hb7 := hb5.trans (hc4.mono hb5.size)
          clear z0
          have z0 := hD4.c0
          go_wp2_with fail
          refine (and_bad hD4.ar 1 nn (.inr hneg)).mono ?_
          rintro e W5 ⟨rfl, hc5⟩
          have hD5 := hD4.below hc5
          have hb8 := hb7.trans (hc5.mono hb7.size)
          clear z0
          have z0 := hD5.c0
          go_wp2_with fail
          refine (or_bad hD5.ar nn 0 (.inl hneg)).mono ?_
          rintro e W6 ⟨rfl, hc6⟩
          have hD6 := hD5.below hc6
          have hb9 := hb8.trans (hc6.mono hb8.size)
          clear z0
          have z0 := hD6.c0
          go_wp2_with fail
          refine (xor_bad hD6.ar 0 nn (.inr hneg)).mono ?_
          rintro e W7 ⟨rfl, hc7⟩
          have hD7 := hD6.below hc7
          have hb10 := hb9.trans (hc7.mono hb9.size)
          clear z0
          have z0 := hD7.c0
          go_wp2_with fail
          refine (ite_bad hD7.ar 1 0 nn hneg).mono ?_
          rintro e W8 ⟨rfl, hc8⟩
          have hD8 := hD7.below hc8
          have hb11 := hb10.trans (hc8.mono hb10.size)
          clear z0
          have z0 := hD8.c0
          go_wp2_with fail
          refine (restrict_bad hD8.ar nn (j : Int) true hneg).mono ?_
          rintro e W9 ⟨rfl, hc9⟩
          have hD9 := hD8.below hc9
          have hb12 := hb11.trans (hc9.mono hb11.size)
          clear z0
          have z0 := hD9.c0
          go_wp2_with fail
          refine (holds_bad hD9.ar nn ss hneg).mono ?_
          rintro e W10 ⟨rfl, hc10⟩
          have hD10 := hD9.below hc10
          have hb13 := hb12.trans (hc10.mono hb12.size)
          clear z0
          have z0 := hD10.c0
          go_wp2_with fail
          refine (sat_bad hD10.ar nn hneg).mono ?_
          rintro e W11 ⟨rfl, hc11⟩
          have hD11 := hD10.below hc11
          have hb14 := hb13.trans (hc11.mono hb13.size)
          clear z0
          have z0 := hD11.c0
          go_wp2_with fail
          refine (count_bad hD11.ar nn hneg).mono ?_
          rintro e W12 ⟨rfl, hc12⟩
          have hD12 := hD11.below hc12
          have hb15 := hb14.trans (hc12.mono hb14.size)
          clear z0
          have z0 := hD12.c0
          go_wp2_with fail
          refine (only_bad hD12.ar nn hneg).mono ?_
          rintro e W13 ⟨rfl, hc13⟩
          have hD13 := hD12.below hc13
          have hb16 := hb15.trans (hc13.mono hb15.size)
          clear z0
          have z0 := hD13.c0
          go_wp2_with fail
          go_ret
          exact ⟨rfl, hb1.trans (hb16.mono hb1.size)⟩
        · have hneg' : decide (0 ≤ nn) = true := by simp; omega
          go_wp2_with fail
          go_ret
          exact ⟨rfl, hb1.trans (hb5.mono hb1.size)⟩
  · have hi1 : decide (0 ≤ ii) = true ∧ decide (ii < (vars : Int)) = false ∨ decide (0 ≤ ii) = false := by
      by_cases h0 : 0 ≤ ii
      · left; exact ⟨by simpa using h0, by simp only [decide_eq_false_iff_not]; intro h; exact hin ⟨h0, h⟩⟩
      · right; simpa using h0
    have HI := Lib.hid hi1
    have HI0 := Lib.hid hin
    clear hi1 hin
    by_cases hs : 0 ≤ ss ∧ ss < 2 ^ vars
    · obtain ⟨t, rfl⟩ := Int.eq_ofNat_of_zero_le hs.1
      have ht : t < 2 ^ vars := by have := HP.out; have := hs.2; omega
      have hs' : decide ((t : Int) < 2 ^ vars) = true := by simp only [decide_eq_true_iff]; exact hs.2
      clear hs
      go_wp2_with fail
      refine (var_arg hD.ar ii HI0.out).mono ?_
      rintro e W1 ⟨rfl, hc1⟩
      have hD1 := hD.below hc1
      have hb3 := hb2.trans (hc1.mono hb2.size)
      clear z0
      have z0 := hD1.c0
      go_wp2_with fail
      refine (restrict_arg hD1.ar 1 ii true (by omega) HI0.out).mono ?_
      rintro e W2 ⟨rfl, hc2⟩
      rcases HI.out with ⟨g1, g2⟩ | g1
      · have hD2 := hD1.below hc2
        have hb4 := hb3.trans (hc2.mono hb3.size)
        clear z0
        have z0 := hD2.c0
        go_wp2_with fail
        refine (holdsH hD2.ar (Has.always _) t ht).mono ?_
        rintro e W3 ⟨rfl, hc3⟩
        have hD3 := hD2.below hc3
        have hb5 := hb4.trans (hc3.mono hb4.size)
        clear z0
        have z0 := hD3.c0
        by_cases hneg : nn < 0
        · have hneg' : decide (0 ≤ nn) = false := by simp; omega
          go_wp2_with fail
          refine (not_bad hD3.ar nn hneg).mono ?_
          rintro e W4 ⟨rfl, hc4⟩
          have hD4 := hD3.below hc4
          have hb7 := hb5.trans (hc4.mono hb5.size)
          clear z0
          have z0 := hD4.c0
          go_wp2_with fail
          refine (and_bad hD4.ar 1 nn (.inr hneg)).mono ?_
          rintro e W5 ⟨rfl, hc5⟩
          have hD5 := hD4.below hc5
          have hb8 := hb7.trans (hc5.mono hb7.size)
          clear z0
          have z0 := hD5.c0
          go_wp2_with fail
          refine (or_bad hD5.ar nn 0 (.inl hneg)).mono ?_
          rintro e W6 ⟨rfl, hc6⟩
          have hD6 := hD5.below hc6
          have hb9 := hb8.trans (hc6.mono hb8.size)
          clear z0
          have z0 := hD6.c0
          go_wp2_with fail
          refine (xor_bad hD6.ar 0 nn (.inr hneg)).mono ?_
          rintro e W7 ⟨rfl, hc7⟩
          have hD7 := hD6.below hc7
          have hb10 := hb9.trans (hc7.mono hb9.size)
          clear z0
          have z0 := hD7.c0
          go_wp2_with fail
          refine (ite_bad hD7.ar 1 0 nn hneg).mono ?_
          rintro e W8 ⟨rfl, hc8⟩
          have hD8 := hD7.below hc8
          have hb11 := hb10.trans (hc8.mono hb10.size)
          clear z0
          have z0 := hD8.c0
          go_wp2_with fail
          refine (restrict_bad hD8.ar nn ii true hneg).mono ?_
          rintro e W9 ⟨rfl, hc9⟩
          have hD9 := hD8.below hc9
          have hb12 := hb11.trans (hc9.mono hb11.size)
          clear z0
          have z0 := hD9.c0
          go_wp2_with fail
          refine (holds_bad hD9.ar nn (t : Int) hneg).mono ?_
          rintro e W10 ⟨rfl, hc10⟩
          have hD10 := hD9.below hc10
          have hb13 := hb12.trans (hc10.mono hb12.size)
          clear z0
          have z0 := hD10.c0
          go_wp2_with fail
          refine (sat_bad hD10.ar nn hneg).mono ?_
          rintro e W11 ⟨rfl, hc11⟩
          have hD11 := hD10.below hc11
          have hb14 := hb13.trans (hc11.mono hb13.size)
          clear z0
          have z0 := hD11.c0
          go_wp2_with fail
          refine (count_bad hD11.ar nn hneg).mono ?_
          rintro e W12 ⟨rfl, hc12⟩
          have hD12 := hD11.below hc12
          have hb15 := hb14.trans (hc12.mono hb14.size)
          clear z0
          have z0 := hD12.c0
          go_wp2_with fail
          refine (only_bad hD12.ar nn hneg).mono ?_
          rintro e W13 ⟨rfl, hc13⟩
          have hD13 := hD12.below hc13
          have hb16 := hb15.trans (hc13.mono hb15.size)
          clear z0
          have z0 := hD13.c0
          go_wp2_with fail
          go_ret
          exact ⟨rfl, hb1.trans (hb16.mono hb1.size)⟩
        · have hneg' : decide (0 ≤ nn) = true := by simp; omega
          go_wp2_with fail
          go_ret
          exact ⟨rfl, hb1.trans (hb5.mono hb1.size)⟩
      · have hD2 := hD1.below hc2
        have hb4 := hb3.trans (hc2.mono hb3.size)
        clear z0
        have z0 := hD2.c0
        go_wp2_with fail
        refine (holdsH hD2.ar (Has.always _) t ht).mono ?_
        rintro e W3 ⟨rfl, hc3⟩
        have hD3 := hD2.below hc3
        have hb5 := hb4.trans (hc3.mono hb4.size)
        clear z0
        have z0 := hD3.c0
        by_cases hneg : nn < 0
        · have hneg' : decide (0 ≤ nn) = false := by simp; omega
          go_wp2_with fail
          refine (not_bad hD3.ar nn hneg).mono ?_
          rintro e W4 ⟨rfl, hc4⟩
          have hD4 := hD3.below hc4
          have hb7 := hb5.trans (hc4.mono hb5.size)
          clear z0
          have z0 := hD4.c0
          go_wp2_with fail
          refine (and_bad hD4.ar 1 nn (.inr hneg)).mono ?_
          rintro e W5 ⟨rfl, hc5⟩
          have hD5 := hD4.below hc5
          have hb8 := hb7.trans (hc5.mono hb7.size)
          clear z0
          have z0 := hD5.c0
          go_wp2_with fail
          refine (or_bad hD5.ar nn 0 (.inl hneg)).mono ?_
          rintro e W6 ⟨rfl, hc6⟩
          have hD6 := hD5.below hc6
          have hb9 := hb8.trans (hc6.mono hb8.size)
          clear z0
          have z0 := hD6.c0
          go_wp2_with fail
          refine (xor_bad hD6.ar 0 nn (.inr hneg)).mono ?_
          rintro e W7 ⟨rfl, hc7⟩
          have hD7 := hD6.below hc7
          have hb10 := hb9.trans (hc7.mono hb9.size)
          clear z0
          have z0 := hD7.c0
          go_wp2_with fail
          refine (ite_bad hD7.ar 1 0 nn hneg).mono ?_
          rintro e W8 ⟨rfl, hc8⟩
          have hD8 := hD7.below hc8
          have hb11 := hb10.trans (hc8.mono hb10.size)
          clear z0
          have z0 := hD8.c0
          go_wp2_with fail
          refine (restrict_bad hD8.ar nn ii true hneg).mono ?_
          rintro e W9 ⟨rfl, hc9⟩
          have hD9 := hD8.below hc9
          have hb12 := hb11.trans (hc9.mono hb11.size)
          clear z0
          have z0 := hD9.c0
          go_wp2_with fail
          refine (holds_bad hD9.ar nn (t : Int) hneg).mono ?_
          rintro e W10 ⟨rfl, hc10⟩
          have hD10 := hD9.below hc10
          have hb13 := hb12.trans (hc10.mono hb12.size)
          clear z0
          have z0 := hD10.c0
          go_wp2_with fail
          refine (sat_bad hD10.ar nn hneg).mono ?_
          rintro e W11 ⟨rfl, hc11⟩
          have hD11 := hD10.below hc11
          have hb14 := hb13.trans (hc11.mono hb13.size)
          clear z0
          have z0 := hD11.c0
          go_wp2_with fail
          refine (count_bad hD11.ar nn hneg).mono ?_
          rintro e W12 ⟨rfl, hc12⟩
          have hD12 := hD11.below hc12
          have hb15 := hb14.trans (hc12.mono hb14.size)
          clear z0
          have z0 := hD12.c0
          go_wp2_with fail
          refine (only_bad hD12.ar nn hneg).mono ?_
          rintro e W13 ⟨rfl, hc13⟩
          have hD13 := hD12.below hc13
          have hb16 := hb15.trans (hc13.mono hb15.size)
          clear z0
          have z0 := hD13.c0
          go_wp2_with fail
          go_ret
          exact ⟨rfl, hb1.trans (hb16.mono hb1.size)⟩
        · have hneg' : decide (0 ≤ nn) = true := by simp; omega
          go_wp2_with fail
          go_ret
          exact ⟨rfl, hb1.trans (hb5.mono hb1.size)⟩
    · have hs1 : decide (0 ≤ ss) = true ∧ decide (ss < 2 ^ vars) = false ∨ decide (0 ≤ ss) = false := by
        by_cases h0 : 0 ≤ ss
        · left; exact ⟨by simpa using h0, by simp only [decide_eq_false_iff_not]; intro h; exact hs ⟨h0, h⟩⟩
        · right; simpa using h0
      have HS := Lib.hid hs1
      have HS0 := Lib.hid hs
      clear hs1 hs
      go_wp2_with fail
      refine (var_arg hD.ar ii HI0.out).mono ?_
      rintro e W1 ⟨rfl, hc1⟩
      have hD1 := hD.below hc1
      have hb3 := hb2.trans (hc1.mono hb2.size)
      clear z0
      have z0 := hD1.c0
      go_wp2_with fail
      refine (restrict_arg hD1.ar 1 ii true (by omega) HI0.out).mono ?_
      rintro e W2 ⟨rfl, hc2⟩
      rcases HI.out with ⟨g1, g2⟩ | g1
      · have hD2 := hD1.below hc2
        have hb4 := hb3.trans (hc2.mono hb3.size)
        clear z0
        have z0 := hD2.c0
        go_wp2_with fail
        refine (holds_arg hD2.ar 1 ss (by omega) HS0.out).mono ?_
        rintro e W3 ⟨rfl, hc3⟩
        have hD3 := hD2.below hc3
        have hb5 := hb4.trans (hc3.mono hb4.size)
        clear z0
        have z0 := hD3.c0
        rcases HS.out with ⟨f1, f2⟩ | f1
        · by_cases hneg : nn < 0
          · have hneg' : decide (0 ≤ nn) = false := by simp; omega
            go_wp2_with fail
            refine (not_bad hD3.ar nn hneg).mono ?_
            rintro e W4 ⟨rfl, hc4⟩
            have hD4 := hD3.below hc4
            have hb7 := hb5.trans (hc4.mono hb5.size)
            clear z0
            have z0 := hD4.c0
            go_wp2_with fail
            refine (and_bad hD4.ar 1 nn (.inr hneg)).mono ?_
            rintro e W5 ⟨rfl, hc5⟩
            have hD5 := hD4.below hc5
            have hb8 := hb7.trans (hc5.mono hb7.size)
            clear z0
            have z0 := hD5.c0
            go_wp2_with fail
            refine (or_bad hD5.ar nn 0 (.inl hneg)).mono ?_
            rintro e W6 ⟨rfl, hc6⟩
            have hD6 := hD5.below hc6
            have hb9 := hb8.trans (hc6.mono hb8.size)
            clear z0
            have z0 := hD6.c0
            go_wp2_with fail
            refine (xor_bad hD6.ar 0 nn (.inr hneg)).mono ?_
            rintro e W7 ⟨rfl, hc7⟩
            have hD7 := hD6.below hc7
            have hb10 := hb9.trans (hc7.mono hb9.size)
            clear z0
            have z0 := hD7.c0
            go_wp2_with fail
            refine (ite_bad hD7.ar 1 0 nn hneg).mono ?_
            rintro e W8 ⟨rfl, hc8⟩
            have hD8 := hD7.below hc8
            have hb11 := hb10.trans (hc8.mono hb10.size)
            clear z0
            have z0 := hD8.c0
            go_wp2_with fail
            refine (restrict_bad hD8.ar nn ii true hneg).mono ?_
            rintro e W9 ⟨rfl, hc9⟩
            have hD9 := hD8.below hc9
            have hb12 := hb11.trans (hc9.mono hb11.size)
            clear z0
            have z0 := hD9.c0
            go_wp2_with fail
            refine (holds_bad hD9.ar nn ss hneg).mono ?_
            rintro e W10 ⟨rfl, hc10⟩
            have hD10 := hD9.below hc10
            have hb13 := hb12.trans (hc10.mono hb12.size)
            clear z0
            have z0 := hD10.c0
            go_wp2_with fail
            refine (sat_bad hD10.ar nn hneg).mono ?_
            rintro e W11 ⟨rfl, hc11⟩
            have hD11 := hD10.below hc11
            have hb14 := hb13.trans (hc11.mono hb13.size)
            clear z0
            have z0 := hD11.c0
            go_wp2_with fail
            refine (count_bad hD11.ar nn hneg).mono ?_
            rintro e W12 ⟨rfl, hc12⟩
            have hD12 := hD11.below hc12
            have hb15 := hb14.trans (hc12.mono hb14.size)
            clear z0
            have z0 := hD12.c0
            go_wp2_with fail
            refine (only_bad hD12.ar nn hneg).mono ?_
            rintro e W13 ⟨rfl, hc13⟩
            have hD13 := hD12.below hc13
            have hb16 := hb15.trans (hc13.mono hb15.size)
            clear z0
            have z0 := hD13.c0
            go_wp2_with fail
            go_ret
            exact ⟨rfl, hb1.trans (hb16.mono hb1.size)⟩
          · have hneg' : decide (0 ≤ nn) = true := by simp; omega
            go_wp2_with fail
            go_ret
            exact ⟨rfl, hb1.trans (hb5.mono hb1.size)⟩
        · by_cases hneg : nn < 0
          · have hneg' : decide (0 ≤ nn) = false := by simp; omega
            go_wp2_with fail
            refine (not_bad hD3.ar nn hneg).mono ?_
            rintro e W4 ⟨rfl, hc4⟩
            have hD4 := hD3.below hc4
            have hb7 := hb5.trans (hc4.mono hb5.size)
            clear z0
            have z0 := hD4.c0
            go_wp2_with fail
            refine (and_bad hD4.ar 1 nn (.inr hneg)).mono ?_
            rintro e W5 ⟨rfl, hc5⟩
            have hD5 := hD4.below hc5
            have hb8 := hb7.trans (hc5.mono hb7.size)
            clear z0
            have z0 := hD5.c0
            go_wp2_with fail
            refine (or_bad hD5.ar nn 0 (.inl hneg)).mono ?_
            rintro e W6 ⟨rfl, hc6⟩
            have hD6 := hD5.below hc6
            have hb9 := hb8.trans (hc6.mono hb8.size)
            clear z0
            have z0 := hD6.c0
            go_wp2_with fail
            refine (xor_bad hD6.ar 0 nn (.inr hneg)).mono ?_
            rintro e W7 ⟨rfl, hc7⟩
            have hD7 := hD6.below hc7
            have hb10 := hb9.trans (hc7.mono hb9.size)
            clear z0
            have z0 := hD7.c0
            go_wp2_with fail
            refine (ite_bad hD7.ar 1 0 nn hneg).mono ?_
            rintro e W8 ⟨rfl, hc8⟩
            have hD8 := hD7.below hc8
            have hb11 := hb10.trans (hc8.mono hb10.size)
            clear z0
            have z0 := hD8.c0
            go_wp2_with fail
            refine (restrict_bad hD8.ar nn ii true hneg).mono ?_
            rintro e W9 ⟨rfl, hc9⟩
            have hD9 := hD8.below hc9
            have hb12 := hb11.trans (hc9.mono hb11.size)
            clear z0
            have z0 := hD9.c0
            go_wp2_with fail
            refine (holds_bad hD9.ar nn ss hneg).mono ?_
            rintro e W10 ⟨rfl, hc10⟩
            have hD10 := hD9.below hc10
            have hb13 := hb12.trans (hc10.mono hb12.size)
            clear z0
            have z0 := hD10.c0
            go_wp2_with fail
            refine (sat_bad hD10.ar nn hneg).mono ?_
            rintro e W11 ⟨rfl, hc11⟩
            have hD11 := hD10.below hc11
            have hb14 := hb13.trans (hc11.mono hb13.size)
            clear z0
            have z0 := hD11.c0
            go_wp2_with fail
            refine (count_bad hD11.ar nn hneg).mono ?_
            rintro e W12 ⟨rfl, hc12⟩
            have hD12 := hD11.below hc12
            have hb15 := hb14.trans (hc12.mono hb14.size)
            clear z0
            have z0 := hD12.c0
            go_wp2_with fail
            refine (only_bad hD12.ar nn hneg).mono ?_
            rintro e W13 ⟨rfl, hc13⟩
            have hD13 := hD12.below hc13
            have hb16 := hb15.trans (hc13.mono hb15.size)
            clear z0
            have z0 := hD13.c0
            go_wp2_with fail
            go_ret
            exact ⟨rfl, hb1.trans (hb16.mono hb1.size)⟩
          · have hneg' : decide (0 ≤ nn) = true := by simp; omega
            go_wp2_with fail
            go_ret
            exact ⟨rfl, hb1.trans (hb5.mono hb1.size)⟩
      · have hD2 := hD1.below hc2
        have hb4 := hb3.trans (hc2.mono hb3.size)
        clear z0
        have z0 := hD2.c0
        go_wp2_with fail
        refine (holds_arg hD2.ar 1 ss (by omega) HS0.out).mono ?_
        rintro e W3 ⟨rfl, hc3⟩
        have hD3 := hD2.below hc3
        have hb5 := hb4.trans (hc3.mono hb4.size)
        clear z0
        have z0 := hD3.c0
        rcases HS.out with ⟨f1, f2⟩ | f1
        · by_cases hneg : nn < 0
          · have hneg' : decide (0 ≤ nn) = false := by simp; omega
            go_wp2_with fail
            refine (not_bad hD3.ar nn hneg).mono ?_
            rintro e W4 ⟨rfl, hc4⟩
            have hD4 := hD3.below hc4
            have hb7 := hb5.trans (hc4.mono hb5.size)
            clear z0
            have z0 := hD4.c0
            go_wp2_with fail
            refine (and_bad hD4.ar 1 nn (.inr hneg)).mono ?_
            rintro e W5 ⟨rfl, hc5⟩
            have hD5 := hD4.below hc5
            have hb8 := hb7.trans (hc5.mono hb7.size)
            clear z0
            have z0 := hD5.c0
            go_wp2_with fail
            refine (or_bad hD5.ar nn 0 (.inl hneg)).mono ?_
            rintro e W6 ⟨rfl, hc6⟩
            have hD6 := hD5.below hc6
            have hb9 := hb8.trans (hc6.mono hb8.size)
            clear z0
            have z0 := hD6.c0
            go_wp2_with fail
            refine (xor_bad hD6.ar 0 nn (.inr hneg)).mono ?_
            rintro e W7 ⟨rfl, hc7⟩
            have hD7 := hD6.below hc7
            have hb10 := hb9.trans (hc7.mono hb9.size)
            clear z0
            have z0 := hD7.c0
            go_wp2_with fail
            refine (ite_bad hD7.ar 1 0 nn hneg).mono ?_
            rintro e W8 ⟨rfl, hc8⟩
            have hD8 := hD7.below hc8
            have hb11 := hb10.trans (hc8.mono hb10.size)
            clear z0
            have z0 := hD8.c0
            go_wp2_with fail
            refine (restrict_bad hD8.ar nn ii true hneg).mono ?_
            rintro e W9 ⟨rfl, hc9⟩
            have hD9 := hD8.below hc9
            have hb12 := hb11.trans (hc9.mono hb11.size)
            clear z0
            have z0 := hD9.c0
            go_wp2_with fail
            refine (holds_bad hD9.ar nn ss hneg).mono ?_
            rintro e W10 ⟨rfl, hc10⟩
            have hD10 := hD9.below hc10
            have hb13 := hb12.trans (hc10.mono hb12.size)
            clear z0
            have z0 := hD10.c0
            go_wp2_with fail
            refine (sat_bad hD10.ar nn hneg).mono ?_
            rintro e W11 ⟨rfl, hc11⟩
            have hD11 := hD10.below hc11
            have hb14 := hb13.trans (hc11.mono hb13.size)
            clear z0
            have z0 := hD11.c0
            go_wp2_with fail
            refine (count_bad hD11.ar nn hneg).mono ?_
            rintro e W12 ⟨rfl, hc12⟩
            have hD12 := hD11.below hc12
            have hb15 := hb14.trans (hc12.mono hb14.size)
            clear z0
            have z0 := hD12.c0
            go_wp2_with fail
            refine (only_bad hD12.ar nn hneg).mono ?_
            rintro e W13 ⟨rfl, hc13⟩
            have hD13 := hD12.below hc13
            have hb16 := hb15.trans (hc13.mono hb15.size)
            clear z0
            have z0 := hD13.c0
            go_wp2_with fail
            go_ret
            exact ⟨rfl, hb1.trans (hb16.mono hb1.size)⟩
          · have hneg' : decide (0 ≤ nn) = true := by simp; omega
            go_wp2_with fail
            go_ret
            exact ⟨rfl, hb1.trans (hb5.mono hb1.size)⟩
        · by_cases hneg : nn < 0
          · have hneg' : decide (0 ≤ nn) = false := by simp; omega
            go_wp2_with fail
            refine (not_bad hD3.ar nn hneg).mono ?_
            rintro e W4 ⟨rfl, hc4⟩
            have hD4 := hD3.below hc4
            have hb7 := hb5.trans (hc4.mono hb5.size)
            clear z0
            have z0 := hD4.c0
            go_wp2_with fail
            refine (and_bad hD4.ar 1 nn (.inr hneg)).mono ?_
            rintro e W5 ⟨rfl, hc5⟩
            have hD5 := hD4.below hc5
            have hb8 := hb7.trans (hc5.mono hb7.size)
            clear z0
            have z0 := hD5.c0
            go_wp2_with fail
            refine (or_bad hD5.ar nn 0 (.inl hneg)).mono ?_
            rintro e W6 ⟨rfl, hc6⟩
            have hD6 := hD5.below hc6
            have hb9 := hb8.trans (hc6.mono hb8.size)
            clear z0
            have z0 := hD6.c0
            go_wp2_with fail
            refine (xor_bad hD6.ar 0 nn (.inr hneg)).mono ?_
            rintro e W7 ⟨rfl, hc7⟩
            have hD7 := hD6.below hc7
            have hb10 := hb9.trans (hc7.mono hb9.size)
            clear z0
            have z0 := hD7.c0
            go_wp2_with fail
            refine (ite_bad hD7.ar 1 0 nn hneg).mono ?_
            rintro e W8 ⟨rfl, hc8⟩
            have hD8 := hD7.below hc8
            have hb11 := hb10.trans (hc8.mono hb10.size)
            clear z0
            have z0 := hD8.c0
            go_wp2_with fail
            refine (restrict_bad hD8.ar nn ii true hneg).mono ?_
            rintro e W9 ⟨rfl, hc9⟩
            have hD9 := hD8.below hc9
            have hb12 := hb11.trans (hc9.mono hb11.size)
            clear z0
            have z0 := hD9.c0
            go_wp2_with fail
            refine (holds_bad hD9.ar nn ss hneg).mono ?_
            rintro e W10 ⟨rfl, hc10⟩
            have hD10 := hD9.below hc10
            have hb13 := hb12.trans (hc10.mono hb12.size)
            clear z0
            have z0 := hD10.c0
            go_wp2_with fail
            refine (sat_bad hD10.ar nn hneg).mono ?_
            rintro e W11 ⟨rfl, hc11⟩
            have hD11 := hD10.below hc11
            have hb14 := hb13.trans (hc11.mono hb13.size)
            clear z0
            have z0 := hD11.c0
            go_wp2_with fail
            refine (count_bad hD11.ar nn hneg).mono ?_
            rintro e W12 ⟨rfl, hc12⟩
            have hD12 := hD11.below hc12
            have hb15 := hb14.trans (hc12.mono hb14.size)
            clear z0
            have z0 := hD12.c0
            go_wp2_with fail
            refine (only_bad hD12.ar nn hneg).mono ?_
            rintro e W13 ⟨rfl, hc13⟩
            have hD13 := hD12.below hc13
            have hb16 := hb15.trans (hc13.mono hb15.size)
            clear z0
            have z0 := hD13.c0
            go_wp2_with fail
            go_ret
            exact ⟨rfl, hb1.trans (hb16.mono hb1.size)⟩
          · have hneg' : decide (0 ≤ nn) = true := by simp; omega
            go_wp2_with fail
            go_ret
            exact ⟨rfl, hb1.trans (hb5.mono hb1.size)⟩
end Go.Proofs.Ythhcahojbgcihaa
