/- What is proved: the chapter's examples come out as the statements ask: awake answers true. -/
import Derived.Test.YthhcahojbgcihaaW8
namespace Go.Proofs.Ythhcahojbgcihaa
open Go.RowKit Bd

theorem least_and {s : Nat} (h : LeastIs (fun a => a 0 && a 1) 3 s) : s = 3 := by
  obtain ⟨h1, h2, h3⟩ := h
  have := h3 3 (by decide)
  have hs : s < 8 := h1
  match s, hs with
  | 0, _ => exact absurd h2 (by decide)
  | 1, _ => exact absurd h2 (by decide)
  | 2, _ => exact absurd h2 (by decide)
  | 3, _ => rfl
  | k + 4, _ => omega

theorem names_and {A : Nat} (h : NamesOf (fun a => a 0 && a 1) A) : A = 3 := by
  obtain ⟨h1, h2⟩ := h
  have b0 : A.testBit 0 = true := (h2 0).2 ⟨fun _ => true, by simp [upd]⟩
  have b1 : A.testBit 1 = true := (h2 1).2 ⟨fun _ => true, by simp [upd]⟩
  have bk : ∀ i, 2 ≤ i → A.testBit i = false := by
    intro i hi
    rw [Bool.eq_false_iff]
    intro hc
    obtain ⟨a, ha⟩ := (h2 i).1 hc
    exact ha (by simp [upd, show ¬ 0 = i by omega, show ¬ 1 = i by omega])
  apply Nat.eq_of_testBit_eq
  intro i
  match i with
  | 0 => rw [b0]; rfl
  | 1 => rw [b1]; rfl
  | k + 2 => rw [bk (k + 2) (by omega), Nat.testBit_lt_two_pow]; exact Nat.lt_of_lt_of_le (show 3 < 2 ^ 2 by omega) (Nat.pow_le_pow_right (by omega) (by omega))

theorem cnt_and : cntG (fun a => a 0 && a 1) 3 = 2 := by decide

set_option maxHeartbeats 4000000 in
set_option maxRecDepth 100000 in
theorem awake_any (w : World) : Calls Try.prog 9 #[] w fun e w' => e = .returned (.bool true) ∧ Below w.heap.size w w' := by
  have N3 := Lib.hid (new_yes 3 (by omega) w)
  go_enter Try.func9, Try.ntmps9
  go_wp2_with fail
  refine (N3.out).mono ?_
  rintro e w1 ⟨rfl, hA1, hb1⟩
  go_wp2_with fail
  refine (new_no 9 (by omega) _).mono ?_
  rintro e w2 ⟨rfl, rfl⟩
  have hpl := lt_of_get hA1.blk
  go_wp2_with fail
  -- x, y
  refine (varH hA1 0 (by omega) (by simp)).mono ?_
  rintro e w2 ⟨x, d2, s2, hx2, K2, l2, rfl, hA2, F2⟩
  simp only [List.length_nil, Nat.zero_add] at l2
  go_wp2_with fail
  refine (varH hA2 1 (by omega) (by omega)).mono ?_
  rintro e w3 ⟨y, d3, s3, hy3, K3, l3, rfl, hA3, F3⟩
  have hx3 := K3 _ _ hx2
  go_wp2_with fail
  -- n
  refine (notH hA3 hx3 (by omega)).mono ?_
  rintro e w4 ⟨n, d4, s4, hn4, K4, l4, rfl, hA4, F4⟩
  have hx4 := K4 _ _ hx3
  have hy4 := K4 _ _ hy3
  go_wp2_with fail
  -- p
  refine (andH hA4 hx4 hn4 (by omega)).mono ?_
  rintro e w5 ⟨pp, d5, s5, hp5, K5, l5, rfl, hA5, F5⟩
  have hx5 := K5 _ _ hx4
  have hy5 := K5 _ _ hy4
  have hn5 := K5 _ _ hn4
  obtain rfl : pp = 0 := Has.one hA5.wf hp5 (Has.never _) (fun a => by cases a 0 <;> rfl)
  clear hp5
  go_wp2_with fail
  -- q
  refine (orH hA5 hx5 hn5 (by omega)).mono ?_
  rintro e w6 ⟨qq, d6, s6, hq6, K6, l6, rfl, hA6, F6⟩
  have hx6 := K6 _ _ hx5
  have hy6 := K6 _ _ hy5
  obtain rfl : qq = 1 := Has.one hA6.wf hq6 (Has.always _) (fun a => by cases a 0 <;> rfl)
  clear hq6
  go_wp2_with fail
  -- r
  refine (andH hA6 hx6 hy6 (by omega)).mono ?_
  rintro e w7 ⟨r, d7, s7, hr7, K7, l7, rfl, hA7, F7⟩
  have hx7 := K7 _ _ hx6
  have hy7 := K7 _ _ hy6
  go_wp2_with fail
  -- s
  refine (andH hA7 hy7 hx7 (by omega)).mono ?_
  rintro e w8 ⟨ss, d8, s8, hs8, K8, l8, rfl, hA8, F8⟩
  have hy8 := K8 _ _ hy7
  have hr8 := K8 _ _ hr7
  obtain rfl : r = ss := Has.one hA8.wf hr8 hs8 (fun a => Bool.and_comm _ _)
  clear hs8
  go_wp2_with fail
  -- Sat
  refine (satH hA8 hr8).mono ?_
  rintro e w9 (⟨st, hst, rfl, hb9⟩ | ⟨hno, _⟩)
  rotate_left
  · exact absurd (hno fun _ => true) (by simp)
  obtain rfl : st = 3 := least_and hst
  have hA9 := hA8.below hb9
  clear hst
  go_wp2_with fail
  -- Count
  refine (countH hA9 hr8).mono ?_
  rintro e w10 ⟨rfl, hb10⟩
  have hA10 := hA9.below hb10
  rw [cnt_and]
  go_wp2_with fail
  -- Only
  refine (onlyH hA10 hr8).mono ?_
  rintro e w11 ⟨A, hAA, rfl, hb11⟩
  obtain rfl : A = 3 := names_and hAA
  have hA11 := hA10.below hb11
  clear hAA
  go_wp2_with fail
  -- t
  refine (restrictH hA11 hr8 0 true (by omega) (by omega)).mono ?_
  rintro e w12 ⟨tt, d12, s12, ht12, K12, l12, rfl, hA12, F12⟩
  have hy12 := K12 _ _ hy8
  have hr12 := K12 _ _ hr8
  obtain rfl : y = tt := Has.one hA12.wf hy12 ht12 (fun a => by simp [upd])
  clear ht12
  go_wp2_with fail
  -- u
  refine (restrictH hA12 hr12 0 false (by omega) (by omega)).mono ?_
  rintro e w13 ⟨uu, d13, s13, hu13, K13, l13, rfl, hA13, F13⟩
  obtain rfl : uu = 0 := Has.one hA13.wf hu13 (Has.never _) (fun a => by simp [upd])
  clear hu13
  go_wp2_with fail
  -- what is none
  refine (var_arg hA13 3 (by omega)).mono ?_
  rintro e w14 ⟨rfl, hb14⟩
  have hA14 := hA13.below hb14
  go_wp2_with fail
  refine (not_bad hA14 (-1) (by omega)).mono ?_
  rintro e w15 ⟨rfl, hb15⟩
  have hA15 := hA14.below hb15
  go_wp2_with fail
  refine (vars_any hA15).mono ?_
  rintro e w16 ⟨rfl, rfl⟩
  go_wp2_with fail
  go_ret
  refine ⟨rfl, ?_⟩
  have F1 := ((((((F2.trans F3).trans F4).trans F5).trans F6).trans F7).trans F8).trans (Fr.of_below hb9 _ _ _)
  have G := (((((F1.trans (Fr.of_below hb10 _ _ _)).trans (Fr.of_below hb11 _ _ _)).trans F12).trans F13).trans (Fr.of_below hb14 _ _ _)).trans (Fr.of_below hb15 _ _ _)
  exact below_of_fr hb1 (Nat.le_refl _) G (by omega) (Nat.le_refl _) (fun k hk => by cases hk)
end Go.Proofs.Ythhcahojbgcihaa
