/- What is proved: CondAround answers true. -/
import Derived.Test.YtjmbchemdcmegaaLawC
import Derived.Test.YtjmbchemdcmegaaRe
namespace Go.Proofs.Ytjmbchemdcmegaa
open Go.RowKit
open Ct Ct.T

theorem brs_G (ks : List Int) (t : T) : ∀ (b : Bool) (i j : Nat), G ks b i t j → brs b t + i ≤ j := by
  induction t with
  | nil => intro b i j h; simp only [G] at h; subst h; cases b <;> simp [brs]
  | cons l e s r ihs ihr =>
    intro b i j h
    cases b with
    | true =>
      obtain ⟨rfl, ⟨rfl, rfl, _, h4⟩ | ⟨hs, _, h3, _, h5⟩⟩ := h
      · have := ihr _ _ _ h4; simp only [brs]; omega
      · have h6 := ihs _ _ _ h3
        have h7 := ihr _ _ _ h5
        simp only [brs]; omega
    | false =>
      obtain ⟨rfl, rfl, m, h1, _, h3⟩ := h
      have h6 := ihs _ _ _ h1
      have h7 := ihr _ _ _ h3
      simp only [brs]; omega

set_option maxRecDepth 100000 in
set_option maxHeartbeats 8000000 in
theorem around_law (v0 : Value) (a : List Int) (w : World) (h0 : IntsA w v0 a) : Calls Try.prog 5 #[v0] w (TruePost w) := by
  obtain ⟨ad0, c0, rfl, -, hm0⟩ := h0.1.len
  unfold maxLen at hm0
  obtain ⟨na, hna⟩ : ∃ n, n = a.length := ⟨_, rfl⟩
  rw [← hna] at h0 ⊢
  have Hna := Lib.hid hna
  have H0 := Lib.hid h0
  clear hna h0
  go_enter Try.func5, Try.ntmps5
  go_wp2_with fail
  refine (awake_any w).mono ?_
  rintro e w1 ⟨rfl, hB1⟩
  replace H0 := Lib.hid (H0.out.below hB1)
  by_cases q1 : 100 < na
  · have z1 : (100 : Int) < na := by omega
    go_wp2_with fail
    go_ret
    exact ⟨rfl, hB1⟩
  · have z1 : ¬ ((100 : Int) < na) := by omega
    go_wp2_with fail
    refine (lines_any _ a _ H0.out.1 (by rw [← Hna.out]; omega)).mono ?_
    rintro e w2 ⟨x2, rfl, hL, hB2⟩
    have HC := Lib.hid (parse_any x2 _ w2 hL (by rw [← Hna.out]; omega))
    replace H0 := Lib.hid (H0.out.below hB2)
    replace hB2 := Below.then hB1 hB2
    clear hL hB1
    go_wp2_with fail
    refine HC.out.mono ?_
    rintro e w3 ⟨x3, rfl, hT, hB3⟩
    replace H0 := Lib.hid (H0.out.below hB3)
    replace hB3 := Below.then hB2 hB3
    have hok := parse_ok (ks := a)
    obtain ⟨ra, hra⟩ : ∃ r, r = Ct.parse a := ⟨_, rfl⟩
    rw [← hra] at hok hT ⊢
    obtain ⟨ta, ia, ea⟩ := ra
    dsimp only at hok hT ⊢
    clear hra HC hB2
    by_cases p1 : ea = 0
    · obtain ⟨t', hgo, ht'⟩ := hok p1
      simp only [Prod.mk.injEq] at ht'
      obtain ⟨rfl, rfl, -⟩ := ht'
      subst p1
      have hG := Gparse hgo
      have hb1 := brs_G a ta true 0 _ hG
      have hd1 := dep_G a ta true 0 _ hG
      rw [← Hna.out] at hG hb1 hd1
      have HGo := Lib.hid hgo
      have HG := Lib.hid hG
      have HT := Lib.hid hT
      obtain ⟨A, hA⟩ : ∃ A : Int → List Nat, A = fun x => (ar x true 0 ta).1 := ⟨_, rfl⟩
      have hAr : ∀ (x : Int) (W : World), Tr W x3 ta → Calls Try.prog 15 #[x3, .int .i64 x] W fun e w' => ∃ u, e = .returned u ∧ Ints w' u ((A x).map fun x : Nat => (x : Int)) ∧ Below W.heap.size W w' := fun x W h => by
        rw [hA]; exact around_any ta x3 x W h (by omega)
      have hsc : ∀ X : Nat, X < na → scan a X (X + 1) 0 [] = A X := fun X hX => by
        have := (scan_ar a X ta true 0 0 na [] hG (Nat.zero_le _)).1 rfl hX
        rw [Nat.sub_zero, List.nil_append] at this
        rw [this, hA]
      have hle : ∀ x : Int, (A x).length ≤ dep true ta := fun x => by rw [hA]; exact ar_le a x ta true 0 0 na hG (by simp)
      have hdeep : dep true ta = 0 ∨ ∃ X : Nat, X < na ∧ (A X).length = dep true ta := by
        rcases ar_deep a ta true 0 0 na hG (by simp) (by simp) with h | ⟨x, _, h2, h3⟩
        · exact .inl h.2
        · exact .inr ⟨x, h2, by rw [hA]; exact h3⟩
      have hfar : A (na : Int) = [] := by rw [hA]; exact ar_none a na ta true 0 0 na hG (by simp) (by simp) (by simp)
      have hneg : A (-1) = [] := by rw [hA]; exact ar_none a (-1) ta true 0 0 na hG (by simp) (by simp) (by simp)
      obtain ⟨D, hD⟩ : ∃ D, D = dep true ta := ⟨_, rfl⟩
      have hdp : ∀ W : World, Tr W x3 ta → Calls Try.prog 18 #[x3] W fun e w' => e = .returned (.int .i64 (D : Nat)) ∧ Below W.heap.size W w' := fun W h => by
        rw [hD]; exact depth_any ta x3 W h (by omega)
      rw [← hD] at hle hdeep hd1
      have HAr := Lib.hid hAr
      have HSc := Lib.hid hsc
      have HLe := Lib.hid hle
      have HDeep := Lib.hid hdeep
      have HFar := Lib.hid hfar
      have HNeg := Lib.hid hneg
      have HDp := Lib.hid hdp
      clear hok hgo hG hT hA hAr hsc hle hdeep hfar hneg hD hdp
      go_wp2_with fail
      go_loopw [7, 8] (fun m i wr => ∃ (k M : Nat), i = .int .i64 k ∧ m = .int .i64 M ∧ k ≤ na ∧ M ≤ D ∧ (∀ X : Nat, X < k → (A X).length ≤ M) ∧ Below w3.heap.size w3 wr) (fun _ i _ => na - (intOf i).toNat)
      case atStart => exact ⟨0, 0, rfl, rfl, Nat.zero_le _, Nat.zero_le _, fun X h => by omega, Below.refl _ _⟩
      case round =>
        obtain ⟨k, M, rfl, rfl, hk, hM, hmax, hB⟩ := hrel
        have HMax := Lib.hid hmax
        have H0' := Lib.hid (H0.out.below hB)
        have HT' := Lib.hid (HT.out.below hB)
        clear hmax
        by_cases hlt : k < na
        · have y0 : (k : Int) < na := by omega
          go_wp2_with fail
          refine (HAr.out k wr HT'.out).mono ?_
          rintro e w4 ⟨v4, rfl, hI4, hB4⟩
          replace H0' := Lib.hid (H0'.out.below hB4)
          replace hB4 := Below.then hB hB4
          have HI4 := Lib.hid hI4
          clear hI4 hB
          go_wp2_with fail
          refine (lines_any _ a _ H0'.out.1 (by rw [← Hna.out]; omega)).mono ?_
          rintro e w5 ⟨x5, rfl, hL, hB5⟩
          replace HI4 := Lib.hid (HI4.out.below hB5)
          replace hB5 := Below.then hB4 hB5
          have HR := Lib.hid (raround_any x5 a k ta w5 hL (by rw [← Hna.out]; omega) (by rw [← Hna.out]; exact hlt) HGo.out)
          rw [HSc.out k hlt] at HR
          clear hL hB4
          go_wp2_with fail
          refine HR.out.mono ?_
          rintro e w6 ⟨v6, rfl, hI6, hB6⟩
          replace HI4 := Lib.hid (HI4.out.below hB6)
          replace hB6 := Below.then hB5 hB6
          have HI6 := Lib.hid hI6
          clear hI6 HR hB5
          go_wp2_with fail
          refine (same_any v4 v6 _ w6 HI4.out HI6.out).mono ?_
          rintro e w7 ⟨rfl, hB7⟩
          replace hB7 := Below.then hB6 hB7
          obtain ⟨ad4, c4, rfl, -⟩ := HI4.out.len
          rw [List.length_map]
          have hlk := HLe.out k
          obtain ⟨q, hq⟩ : ∃ q, q = (A k).length := ⟨_, rfl⟩
          rw [← hq] at hlk ⊢
          have Hq := Lib.hid hq
          clear hq HI4 HI6 hB6
          have hmx : ∀ Z, Z = max M q → Z ≤ D ∧ ∀ X : Nat, X < k + 1 → (A X).length ≤ Z := fun Z hZ => by
            refine ⟨by omega, fun X hX => ?_⟩
            by_cases hXk : X < k
            · have := HMax.out X hXk; omega
            · have : X = k := by omega
              subst this
              rw [← Hq.out]; omega
          have HMx := Lib.hid hmx
          clear hmx
          rcases Nat.lt_or_ge M q with hqm | hqm
          rotate_left
          · have y5 : ¬ ((M : Int) < q) := by omega
            have H5 := Lib.hid (HMx.out M (by omega))
            go_wp2_with fail
            go_roundw
            case rel =>
              repeat apply Exists.intro
              exact ⟨⟨k + 1, M, by go_num, rfl, hlt, H5.out.1, H5.out.2, hB7⟩, rfl⟩
            case measure => simp [intOf]; omega
          · have y5 : (M : Int) < q := by omega
            have H5 := Lib.hid (HMx.out q (by omega))
            go_wp2_with fail
            go_roundw
            case rel =>
              repeat apply Exists.intro
              exact ⟨⟨k + 1, q, by go_num, rfl, hlt, H5.out.1, H5.out.2, hB7⟩, rfl⟩
            case measure => simp [intOf]; omega
        · have : k = na := by omega
          subst this
          have hMD : M = D := by
            rcases HDeep.out with h | ⟨X, h1, h2⟩
            · omega
            · have := HMax.out X h1; omega
          subst hMD
          clear hlt
          go_wp2_with fail
          refine (HDp.out wr HT'.out).mono ?_
          rintro e w4 ⟨rfl, hB4⟩
          replace HT' := Lib.hid (HT'.out.below hB4)
          replace hB4 := Below.then hB hB4
          clear hB
          go_wp2_with fail
          refine (HAr.out k w4 HT'.out).mono ?_
          rintro e w5 ⟨v5, rfl, hI5, hB5⟩
          replace HT' := Lib.hid (HT'.out.below hB5)
          replace hB5 := Below.then hB4 hB5
          rw [HFar.out] at hI5
          obtain ⟨ad5, c5, rfl, -⟩ := hI5.len
          simp only [List.map_nil, List.length_nil]
          clear hI5 hB4
          go_wp2_with fail
          refine (HAr.out (-1) w5 HT'.out).mono ?_
          rintro e w6 ⟨v6, rfl, hI6, hB6⟩
          replace hB6 := Below.then hB5 hB6
          rw [HNeg.out] at hI6
          obtain ⟨ad6, c6, rfl, -⟩ := hI6.len
          simp only [List.map_nil, List.length_nil]
          have HB6 := Lib.hid (Below.then hB3 hB6)
          clear hI6 hB5 hB6
          go_wp2_with fail
          go_ret
          exact ⟨rfl, HB6.out⟩
    · have y1 : ((ea : Int) == 0) = false := by simp; omega
      have y1' : ((ea : Int) != 0) = true := by simp; omega
      clear hok hT
      go_wp2_with fail
      go_ret
      exact ⟨rfl, hB3⟩
end Go.Proofs.Ytjmbchemdcmegaa
