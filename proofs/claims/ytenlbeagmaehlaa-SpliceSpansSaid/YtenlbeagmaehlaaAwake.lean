/- What is proved: the chapter's examples come out as they should, in whatever memory. -/
import Derived.Test.YtenlbeagmaehlaaSpan
import Derived.Test.YtenlbeagmaehlaaRefS
namespace Go.Proofs.Ytenlbeagmaehlaa
open Go.RowKit Go.Shelf

/-- Old memory stays, over two calls. -/
theorem Below.then {w W W' : World} (h : Below w.heap.size w W) (k : Below W.heap.size W W') : Below w.heap.size w W' := h.trans (k.mono h.size)

theorem Glob.later {w W : World} (h : Glob w) (hb : Below w.heap.size w W) : Glob W := h.below hb h.pos

theorem chars_lit (W : World) : Chars (W.alloc (.cells #[.int .u8 97, .int .i64 0, .int .u8 98, .int .i64 3] 37)) (.slice (some ⟨W.heap.size, 0, none⟩) 2 2) [(97, 0), (98, 3)] := by
  refine ⟨_, 2, rfl, by decide, by decide, fun i x hx => ⟨W.heap.size, 0, rfl, ?_⟩⟩
  match i, hx with
  | 0, hx => simp at hx; subst hx; simp
  | 1, hx => simp at hx; subst hx; simp
theorem ints_lit (W : World) : Ints (W.alloc (.cells #[.int .i64 1] 3)) (.slice (some ⟨W.heap.size, 0, none⟩) 1 1) [1] := by
  refine ⟨_, 1, rfl, by decide, by decide, fun i x hx => ⟨W.heap.size, 0, rfl, ?_⟩⟩
  match i, hx with
  | 0, hx => simp at hx; subst hx; simp

theorem ex1 : Sp.left 0 [97, 92, 10, 98] = [(97, 0), (98, 3)] := by decide
theorem ex2 : Sp.left 0 [92, 92, 10] = [(92, 0)] := by decide
theorem ex3 : spanOf [97, 92, 10, 98, 99] 0 2 = (0, 4, 0) := by decide
theorem ex4 : spanOf [97, 92, 10, 98, 99] 1 1 = (3, 3, 0) := by decide
theorem ex5 : spanOf [97, 92, 10, 98, 99] 3 3 = (5, 5, 0) := by decide
theorem ex6 : spanOf [97, 92, 10, 98, 99] 2 1 = (0, 0, 20) := by decide
theorem ex7 : Sp.spread (Sp.cnt [1] 1) 0 [97, 98] = [97, 92, 10, 98] := by decide
theorem ex8 : Lib.count [97, 92, 10, 98] [92, 10] = 1 := by decide

set_option maxRecDepth 100000 in
set_option maxHeartbeats 4000000 in
theorem awake_any (w : World) (hG : Glob w) : Calls Try.prog 8 #[] w fun e w' => e = .returned (.bool true) ∧ Below w.heap.size w w' := by
  have HG := Lib.hid hG
  clear hG
  go_enter Try.func8, Try.ntmps8
  go_wp2_with fail
  refine (join_any ⟨#[97, 92, 10, 98]⟩ (by decide) _ HG.out).mono ?_
  rintro e w1 ⟨va, rfl, hva, hB1⟩
  rw [show (⟨#[97, 92, 10, 98]⟩ : ByteArray).data.toList = [97, 92, 10, 98] from rfl, ex1] at hva
  obtain ⟨ad, cap, rfl, -⟩ := id hva
  go_wp2_with fail
  refine (join_any ⟨#[92, 92, 10]⟩ (by decide) _ (HG.out.later hB1)).mono ?_
  rintro e w2 ⟨vb, rfl, hvb, hB2⟩
  rw [show (⟨#[92, 92, 10]⟩ : ByteArray).data.toList = [92, 92, 10] from rfl, ex2] at hvb
  obtain ⟨ad2, cap2, rfl, -⟩ := id hvb
  replace hva := hva.below hB2
  replace hB2 := Below.then hB1 hB2
  clear hB1
  go_wp2_with fail
  refine (text_any _ _ _ hvb (by decide)).mono ?_
  rintro e w3 ⟨rfl, hB3⟩
  replace hva := hva.below hB3
  replace hB3 := Below.then hB2 hB3
  clear hB2 hvb
  go_wp2_with fail
  refine (span_any ⟨#[97, 92, 10, 98, 99]⟩ (by decide) 0 2 _ (HG.out.later hB3)).mono ?_
  rintro e w4 ⟨rfl, hB4⟩
  rw [show (⟨#[97, 92, 10, 98, 99]⟩ : ByteArray).data.toList = [97, 92, 10, 98, 99] from rfl, ex3]
  replace hva := hva.below hB4
  replace hB4 := Below.then hB3 hB4
  clear hB3
  go_wp2_with fail
  refine (span_any ⟨#[97, 92, 10, 98, 99]⟩ (by decide) 1 1 _ (HG.out.later hB4)).mono ?_
  rintro e w5 ⟨rfl, hB5⟩
  rw [show (⟨#[97, 92, 10, 98, 99]⟩ : ByteArray).data.toList = [97, 92, 10, 98, 99] from rfl, ex4]
  replace hva := hva.below hB5
  replace hB5 := Below.then hB4 hB5
  clear hB4
  go_wp2_with fail
  refine (span_any ⟨#[97, 92, 10, 98, 99]⟩ (by decide) 3 3 _ (HG.out.later hB5)).mono ?_
  rintro e w6 ⟨rfl, hB6⟩
  rw [show (⟨#[97, 92, 10, 98, 99]⟩ : ByteArray).data.toList = [97, 92, 10, 98, 99] from rfl, ex5]
  replace hva := hva.below hB6
  replace hB6 := Below.then hB5 hB6
  clear hB5
  go_wp2_with fail
  refine (span_any ⟨#[97, 92, 10, 98, 99]⟩ (by decide) 2 1 _ (HG.out.later hB6)).mono ?_
  rintro e w7 ⟨rfl, hB7⟩
  rw [show (⟨#[97, 92, 10, 98, 99]⟩ : ByteArray).data.toList = [97, 92, 10, 98, 99] from rfl, ex6]
  replace hva := hva.below hB7
  replace hB7 := Below.then hB6 hB7
  clear hB6
  have hB8 : Below w.heap.size w (w7.alloc (.cells #[.int .i64 1] 3)) := hB7.alloc hB7.size _
  replace hva := hva.below ((Below.refl _ w7).alloc (Nat.le_refl _) (.cells #[.int .i64 1] 3))
  clear hB7
  go_wp2_with fail
  refine (spread_any ⟨#[97, 98]⟩ (by decide) _ [1] _ (ints_lit w7) (by decide)).mono ?_
  rintro e w9 ⟨rfl, hB9⟩
  rw [show (⟨#[97, 98]⟩ : ByteArray).data.toList = [97, 98] from rfl, show ([1] : List Int).length = 1 from rfl, ex7]
  replace hva := hva.below hB9
  replace hB9 := Below.then hB8 hB9
  clear hB8
  go_wp2_with fail
  refine (pairs_any ⟨#[97, 92, 10, 98]⟩ _ (HG.out.later hB9) (by decide)).mono ?_
  rintro e w10 ⟨rfl, rfl⟩
  rw [show (⟨#[97, 92, 10, 98]⟩ : ByteArray).data.toList = [97, 92, 10, 98] from rfl, ex8]
  go_wp2_with fail
  refine (same_any _ _ [(97, 0), (98, 3)] _ (hva.below ((Below.refl _ w9).alloc (Nat.le_refl _) _)) (chars_lit w9) (by decide)).mono ?_
  rintro e w11 ⟨rfl, hB11⟩
  replace hB11 := Below.then (hB9.alloc hB9.size _) hB11
  clear hB9 hva
  go_wp2_with fail
  go_ret
  exact ⟨rfl, hB11⟩
end Go.Proofs.Ytenlbeagmaehlaa
