/- What is proved: CondWrapped answers true. -/
import Derived.Test.YtjmbchemdcmegaaLawB
namespace Go.Proofs.Ytjmbchemdcmegaa
open Go.RowKit
open Ct Ct.T

theorem row_lit (w : World) (l : List Int) {n : Nat} (hn : n = l.length) (hm : n ≤ 1000000) : (w.alloc (.cells (intv l).toArray 3)).ownsRow w.heap.size 3 1 (.slice (some ⟨w.heap.size, 0, none⟩) n n) n (intv l) := by
  subst hn
  refine ⟨by rw [intv_length, Nat.mul_one], .inr ⟨_, _, _, rfl, Nat.le_refl _, heap_alloc_new w _, Nat.le_refl _, by unfold maxLen; omega, by simp [intv_length], ?_⟩⟩
  rw [Nat.mul_one, List.take_of_length_le (by simp [intv_length])]
theorem IntsA.lit (w : World) (l : List Int) {n : Nat} (hn : n = l.length) (hm : n ≤ 1000000) : IntsA (w.alloc (.cells (intv l).toArray 3)) (.slice (some ⟨w.heap.size, 0, none⟩) n n) l :=
  ⟨Ints.row (row_lit w l hn hm), .inr ⟨_, _, _, rfl⟩⟩
theorem dep_G (ks : List Int) (t : T) : ∀ (b : Bool) (i j : Nat), G ks b i t j → dep b t + i ≤ j := by
  induction t with
  | nil => intro b i j h; simp only [G] at h; subst h; cases b <;> simp [dep]
  | cons l e s r ihs ihr =>
    intro b i j h
    have hij := Glt ks h
    cases b with
    | true =>
      obtain ⟨rfl, ⟨rfl, rfl, _, h4⟩ | ⟨hs, _, h3, _, h5⟩⟩ := h
      · have := ihr _ _ _ h4; simp only [dep]; omega
      · have h6 := ihs _ _ _ h3
        have h7 := ihr _ _ _ h5
        have l1 := Gle ks _ _ _ _ h3
        have l2 := Gle ks _ _ _ _ h5
        simp only [dep]; omega
    | false =>
      obtain ⟨rfl, rfl, m, h1, _, h3⟩ := h
      have h6 := ihs _ _ _ h1
      have h7 := ihr _ _ _ h3
      have l1 := Gle ks _ _ _ _ h1
      have l2 := Gle ks _ _ _ _ h3
      simp only [dep]; omega
theorem dep_parse {ks : List Int} (h : (Ct.parse ks).2.2 = 0) : dep true (Ct.parse ks).1 ≤ ks.length := by
  obtain ⟨t, h1, h2⟩ := parse_ok h
  rw [h2]
  have := dep_G ks t true 0 _ (Gparse h1)
  omega
theorem range_at {n : Nat} (c : Nat) {k : Nat} (h : k < n) : (((List.range' 0 n).map (· + c)).map fun x : Nat => (x : Int))[k]? = some ((k : Int) + c) := by
  rw [List.getElem?_map, List.getElem?_map, List.getElem?_range' h]; simp

set_option maxRecDepth 100000 in
set_option maxHeartbeats 16000000 in
theorem wrapped_any (v0 : Value) (a : List Int) (w : World) (h0 : IntsA w v0 a) : Calls Try.prog 7 #[v0] w (TruePost w) := by
  obtain ⟨ad0, c0, rfl, -, hm0⟩ := h0.1.len
  unfold maxLen at hm0
  obtain ⟨na, hna⟩ : ∃ n, n = a.length := ⟨_, rfl⟩
  rw [← hna] at h0 ⊢
  have Hna := Lib.hid hna
  have H0 := Lib.hid h0
  clear hna h0
  go_enter Try.func7, Try.ntmps7
  go_wp2_with fail
  refine (awake_any w).mono ?_
  rintro e w1 ⟨rfl, hB1⟩
  replace H0 := Lib.hid (H0.out.below hB1)
  by_cases q1 : 300 < na
  · have z1 : (300 : Int) < na := by omega
    go_wp2_with fail
    go_ret
    exact ⟨rfl, hB1⟩
  · have z1 : ¬ ((300 : Int) < na) := by omega
    go_wp2_with fail
    refine (lines_any _ a _ H0.out.1 (by rw [← Hna.out]; omega)).mono ?_
    rintro e w2 ⟨u2, rfl, hL, hB2⟩
    have HC := Lib.hid (parse_any u2 _ w2 hL (by rw [← Hna.out]; omega))
    replace H0 := Lib.hid (H0.out.below hB2)
    replace hB2 := Below.then hB1 hB2
    clear hL hB1
    go_wp2_with fail
    refine HC.out.mono ?_
    rintro e w3 ⟨u3, rfl, hT, hB3⟩
    replace H0 := Lib.hid (H0.out.below hB3)
    replace hB3 := Below.then hB2 hB3
    have hfl := flat_parse (ks := a)
    have hdp := dep_parse (ks := a)
    have hok : (Ct.parse a).2.2 = 0 → Ct.parse (4 :: (a ++ [7])) = (one 0 (na + 1) (one 0 0 (shb 1 true (Ct.parse a).1)), 0, 0) ∧ Ct.parse (2 :: 6 :: (a ++ [7])) = (one 0 (na + 2) (cons 0 0 nil (one 1 0 (shb 2 true (Ct.parse a).1))), 0, 0) := fun h => by
      obtain ⟨t, h1, h2⟩ := parse_ok h
      rw [h2, Hna.out]
      exact ⟨parse_one a t h1, parse_two a t h1⟩
    rw [← Hna.out] at hfl hdp
    obtain ⟨ra, hra⟩ : ∃ r, r = Ct.parse a := ⟨_, rfl⟩
    rw [← hra] at hfl hdp hok hT ⊢
    obtain ⟨ta, ia, ea⟩ := ra
    dsimp only at hfl hdp hok hT ⊢
    clear hra HC hB2
    by_cases p1 : ea = 0
    · obtain ⟨ho1, ho2⟩ := hok p1
      have hf2 := hfl p1
      have hd2 := hdp p1
      subst p1
      have HO1 := Lib.hid ho1
      have HO2 := Lib.hid ho2
      have HFl := Lib.hid hf2
      obtain ⟨D, hD⟩ : ∃ D, D = dep true ta := ⟨_, rfl⟩
      rw [← hD] at hd2
      have HD := Lib.hid hD
      have HDp := Lib.hid (depth_any ta u3 w3 hT (by rw [← hD]; omega))
      rw [← hD] at HDp
      clear hok hfl hdp ho1 ho2 hf2 hD hT
      go_wp2_with fail
      refine HDp.out.mono ?_
      rintro e w4 ⟨rfl, hB4⟩
      replace H0 := Lib.hid (H0.out.below hB4)
      replace hB4 := Below.then hB3 hB4
      clear HDp hB3
      have hBe : Below w4.heap.size w4 (w4.alloc (.cells #[.int .i64 4] 3)) := (Below.refl _ w4).alloc (Nat.le_refl _) _
      have hre : (w4.alloc (.cells #[.int .i64 4] 3)).ownsRow w4.heap.size 3 1 (.slice (some ⟨w4.heap.size, 0, none⟩) 1 1) 1 (intv [4]) := row_lit w4 [4] rfl (by decide)
      go_wp2_with (first
        | (at_builtin; refine wpList_append_args rfl _ _ rfl w4.heap.size (.slice (some ⟨w4.heap.size, 0, none⟩) 1 1) 1 [4] rfl hre (.slice ad0 na c0) a rfl (H0.out.below hBe) (by rw [← Hna.out]; omega) (by simp) ?_; intro x6 w6 hr6 hg6; have hB6 := hBe.grown hg6 (by simp) (by intro k e; simp [Value.ownBlock] at e; omega); have hB6' := hB6.alloc hB6.size (.cells #[.int .i64 7] 3))
        | (at_builtin; refine wpList_append_args rfl _ _ rfl w4.heap.size x6 _ _ rfl (hr6.alloc (.cells #[.int .i64 7] 3)) (.slice (some ⟨w6.heap.size, 0, none⟩) 1 1) [7] rfl (IntsA.lit w6 [7] rfl (by decide)) (by rw [← Hna.out]; simp; omega) hB6'.size ?_; intro x7 w7 hr7 hg7; have hB7 := hB6'.grown hg7 hB6'.size (fun k e => (hr6.lt k e).1)))
      have hI7 := Ints.row hr7
      rw [show [4] ++ a ++ [7] = 4 :: (a ++ [7]) by simp] at hI7
      have hl7 : (4 :: (a ++ [7])).length ≤ 400 := by simp only [List.length_cons, List.length_append, List.length_nil]; rw [← Hna.out]; omega
      refine (lines_any _ (4 :: (a ++ [7])) _ hI7 (by omega)).mono ?_
      rintro e w8 ⟨u8, rfl, hL, hB8⟩
      replace hB8 := Below.then hB7 hB8
      replace H0 := Lib.hid (H0.out.below hB8)
      replace hB8 := Below.then hB4 hB8
      have HC := Lib.hid (parse_any u8 _ w8 hL (by omega))
      rw [HO1.out] at HC
      clear hL hB7 hB6 hBe hre hr6 hr7 hg6 hg7 hI7 hl7 hB6' hB4
      go_wp2_with fail
      refine HC.out.mono ?_
      rintro e w9 ⟨u9, rfl, hT9, hB9⟩
      replace H0 := Lib.hid (H0.out.below hB9)
      replace hB9 := Below.then hB8 hB9
      have HT9 := Lib.hid hT9
      clear hT9 HC hB8
      have hBe : Below w9.heap.size w9 (w9.alloc (.cells #[.int .i64 2, .int .i64 6] 3)) := (Below.refl _ w9).alloc (Nat.le_refl _) _
      have hre : (w9.alloc (.cells #[.int .i64 2, .int .i64 6] 3)).ownsRow w9.heap.size 3 1 (.slice (some ⟨w9.heap.size, 0, none⟩) 2 2) 2 (intv [2, 6]) := row_lit w9 [2, 6] rfl (by decide)
      go_wp2_with (first
        | (at_builtin; refine wpList_append_args rfl _ _ rfl w9.heap.size (.slice (some ⟨w9.heap.size, 0, none⟩) 2 2) 2 [2, 6] rfl hre (.slice ad0 na c0) a rfl (H0.out.below hBe) (by rw [← Hna.out]; omega) (by simp) ?_; intro x6 w6 hr6 hg6; have hB6 := hBe.grown hg6 (by simp) (by intro k e; simp [Value.ownBlock] at e; omega); have hB6' := hB6.alloc hB6.size (.cells #[.int .i64 7] 3))
        | (at_builtin; refine wpList_append_args rfl _ _ rfl w9.heap.size x6 _ _ rfl (hr6.alloc (.cells #[.int .i64 7] 3)) (.slice (some ⟨w6.heap.size, 0, none⟩) 1 1) [7] rfl (IntsA.lit w6 [7] rfl (by decide)) (by rw [← Hna.out]; simp; omega) hB6'.size ?_; intro x7 w7 hr7 hg7; have hB7 := hB6'.grown hg7 hB6'.size (fun k e => (hr6.lt k e).1)))
      have hI7 := Ints.row hr7
      rw [show [2, 6] ++ a ++ [7] = 2 :: 6 :: (a ++ [7]) by simp] at hI7
      have hl7 : (2 :: 6 :: (a ++ [7])).length ≤ 400 := by simp only [List.length_cons, List.length_append, List.length_nil]; rw [← Hna.out]; omega
      refine (lines_any _ (2 :: 6 :: (a ++ [7])) _ hI7 (by omega)).mono ?_
      rintro e w10 ⟨u10, rfl, hL, hB10⟩
      replace hB10 := Below.then hB7 hB10
      replace HT9 := Lib.hid (HT9.out.below hB10)
      replace hB10 := Below.then hB9 hB10
      have HC := Lib.hid (parse_any u10 _ w10 hL (by omega))
      rw [HO2.out] at HC
      clear hL hB7 hB6 hBe hre hr6 hr7 hg6 hg7 hI7 hl7 hB6' hB9 H0
      go_wp2_with fail
      refine HC.out.mono ?_
      rintro e w11 ⟨u11, rfl, hT11, hB11⟩
      replace HT9 := Lib.hid (HT9.out.below hB11)
      replace hB11 := Below.then hB10 hB11
      clear HC hB10
      obtain ⟨a1, k1, rfl, -, -, r1⟩ := HT9.out.form
      obtain ⟨g1, o1, rfl, -⟩ := r1 (by simp [one, T.len])
      obtain ⟨e1, e2, b1, e3, hb1⟩ := TS.item (d := nil) (r := nil) HT9.out
      obtain ⟨a2, k2, rfl, -, -, r2⟩ := hb1.form
      obtain ⟨g2, o2, rfl, -⟩ := r2 (by simp [one, T.len])
      obtain ⟨f1, i1, f2, hi1⟩ := TS.branch (d := nil) (r := nil) hb1
      have HT11 := hT11
      obtain ⟨a3, k3, rfl, -, -, r3⟩ := HT11.form
      obtain ⟨g3, o3, rfl, -⟩ := r3 (by simp [one, T.len])
      obtain ⟨e4, e5, b2, e6, hb2⟩ := TS.item (d := nil) (r := nil) hT11
      obtain ⟨a4, k4, rfl, -, -, r4⟩ := hb2.form
      obtain ⟨g4, o4, rfl, -⟩ := r4 (by simp [T.len])
      obtain ⟨f3, i2, f4, hi2⟩ := TS.branch (d := nil) hb2
      obtain ⟨f5, i3, f6, hi3⟩ := TS.branch (d := cons 0 0 nil nil) (r := nil) hb2
      obtain ⟨a5, k5, rfl, -⟩ := hi2.form
      simp only [T.len, one, Nat.zero_mul, Nat.add_zero, Nat.zero_add, Nat.one_mul] at e1 e2 e3 f1 f2 e4 e5 e6 f3 f4 f5 f6 hb1 hb2 hi1 hi2 hi3 HT9 ⊢
      have l1 : (flat true (shb 1 true ta)).length = na := by rw [flat_shb, HFl.out, List.length_map, List.length_range']
      have l2 : (flat true (shb 2 true ta)).length = na := by rw [flat_shb, HFl.out, List.length_map, List.length_range']
      have HD1 := Lib.hid (depth_any _ _ w11 HT9.out (by simp only [dep, dep_shb]; rw [← HD.out]; omega))
      rw [show dep true (cons 0 (na + 1) (cons 0 0 (shb 1 true ta) nil) nil) = D + 1 by simp only [dep, dep_shb]; rw [← HD.out]; omega] at HD1
      clear r1 r2 r3 r4 hb1 hb2 hT11 HT11 HT9 hi2
      have HI1 := Lib.hid hi1
      have HI3 := Lib.hid hi3
      have L1 := Lib.hid l1
      have L2 := Lib.hid l2
      clear hi1 hi3 l1 l2
      simp only [Nat.reduceAdd, Int.natCast_add, Int.cast_ofNat_Int] at e2 e5 e6 HD1
      have x1 : IntKind.i64.wrap ((D : Int) + 1) = (D : Int) + 1 := IntWalk.i64_in _ (by omega)
      have x2 : IntKind.i64.wrap ((na : Int) + 1) = (na : Int) + 1 := IntWalk.i64_in _ (by omega)
      have x3 : IntKind.i64.wrap ((na : Int) + 2) = (na : Int) + 2 := IntWalk.i64_in _ (by omega)
      go_wp2_with fail
      refine HD1.out.mono ?_
      rintro e w12 ⟨rfl, hB12⟩
      replace e2 := (hB12.cell (p := ⟨g1, o1 + 1, none⟩) (lt_of_cell e2)).trans e2
      replace e3 := (hB12.cell (p := ⟨g1, o1 + 2, none⟩) (lt_of_cell e3)).trans e3
      replace f2 := (hB12.cell (p := ⟨g2, o2 + 1, none⟩) (lt_of_cell f2)).trans f2
      replace e5 := (hB12.cell (p := ⟨g3, o3 + 1, none⟩) (lt_of_cell e5)).trans e5
      replace e6 := (hB12.cell (p := ⟨g3, o3 + 2, none⟩) (lt_of_cell e6)).trans e6
      replace f4 := (hB12.cell (p := ⟨g4, o4 + 1, none⟩) (lt_of_cell f4)).trans f4
      replace f6 := (hB12.cell (p := ⟨g4, o4 + 2 + 1, none⟩) (lt_of_cell f6)).trans f6
      replace HI1 := Lib.hid (Tr.below HI1.out hB12)
      replace HI3 := Lib.hid (Tr.below HI3.out hB12)
      replace hB12 := Below.then hB11 hB12
      clear HD1 hB11 e1 f1 e4 f3 f5
      go_wp2_with fail
      refine (flat_any (shb 1 true ta) _ w12 HI1.out (by rw [L1.out]; omega)).mono ?_
      rintro e w13 ⟨v13, rfl, hI13, hB13⟩
      replace e2 := (hB13.cell (p := ⟨g1, o1 + 1, none⟩) (lt_of_cell e2)).trans e2
      replace e5 := (hB13.cell (p := ⟨g3, o3 + 1, none⟩) (lt_of_cell e5)).trans e5
      replace e6 := (hB13.cell (p := ⟨g3, o3 + 2, none⟩) (lt_of_cell e6)).trans e6
      replace f4 := (hB13.cell (p := ⟨g4, o4 + 1, none⟩) (lt_of_cell f4)).trans f4
      replace f6 := (hB13.cell (p := ⟨g4, o4 + 2 + 1, none⟩) (lt_of_cell f6)).trans f6
      replace HI3 := Lib.hid (Tr.below HI3.out hB13)
      replace hB13 := Below.then hB12 hB13
      have HI13 := Lib.hid hI13
      clear hB12 e3 f2 hI13 HI1
      go_wp2_with fail
      refine (flat_any (shb 2 true ta) _ w13 HI3.out (by rw [L2.out]; omega)).mono ?_
      rintro e w14 ⟨v14, rfl, hI14, hB14⟩
      replace e2 := (hB14.cell (p := ⟨g1, o1 + 1, none⟩) (lt_of_cell e2)).trans e2
      replace e5 := (hB14.cell (p := ⟨g3, o3 + 1, none⟩) (lt_of_cell e5)).trans e5
      replace e6 := (hB14.cell (p := ⟨g3, o3 + 2, none⟩) (lt_of_cell e6)).trans e6
      replace f4 := (hB14.cell (p := ⟨g4, o4 + 1, none⟩) (lt_of_cell f4)).trans f4
      have hI13 := HI13.out.below hB14
      replace hB14 := Below.then hB13 hB14
      rw [flat_shb, HFl.out] at hI13 hI14
      obtain ⟨ad2, cap2, rfl, i1, i2, i3⟩ := hI13
      obtain ⟨ad3, cap3, rfl, j1, j2, j3⟩ := hI14
      rw [List.length_map, List.length_map, List.length_range'] at i1 i3 j1 j3
      simp only [List.length_map, List.length_range']
      unfold maxLen at i2 j2
      have I3 := Lib.hid i3
      have J3 := Lib.hid j3
      clear i3 j3 HI13 HI3 hB13 f6
      go_wp2_with fail
      go_loop [18] (fun i => ∃ k : Nat, i = .int .i64 k ∧ k ≤ na) (fun i => na - (intOf i).toNat)
      case atStart => exact ⟨0, rfl, Nat.zero_le _⟩
      case round =>
        obtain ⟨k, rfl, hk⟩ := hrel
        by_cases hlt : k < na
        · obtain ⟨p2, s2, rfl, hg2, hc2⟩ := I3.out (by omega)
          obtain ⟨p3, s3, rfl, hg3, hc3⟩ := J3.out (by omega)
          have hx2 := hc2 k _ (range_at 1 hlt)
          have hx3 := hc3 k _ (range_at 2 hlt)
          simp only [Int.cast_ofNat_Int] at hx2 hx3
          have y3 : IntKind.i64.wrap ((k : Int) + 1) = (k : Int) + 1 := IntWalk.i64_in _ (by omega)
          have y4 : IntKind.i64.wrap ((k : Int) + 2) = (k : Int) + 2 := IntWalk.i64_in _ (by omega)
          clear hc2 hc3
          go_wp2_with fail
          go_round
          case rel => exact ⟨k + 1, by go_num, hlt⟩
          case measure => simp [intOf]; omega
        · have : k = na := by omega
          subst this
          go_wp2_with fail
          go_ret
          exact ⟨rfl, hB14⟩
    · have y1 : ((ea : Int) == 0) = false := by simp; omega
      have y1' : ((ea : Int) != 0) = true := by simp; omega
      clear hok hfl hdp hT
      go_wp2_with fail
      go_ret
      exact ⟨rfl, hB3⟩
end Go.Proofs.Ytjmbchemdcmegaa
