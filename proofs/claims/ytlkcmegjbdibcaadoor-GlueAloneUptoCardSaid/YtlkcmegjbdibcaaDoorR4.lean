/- What is proved: what the document's own next and Tokens tell. -/
import Derived.Test.YtlkcmegjbdibcaaDoorR3
namespace Go.Proofs.YtlkcmegjbdibcaaDoor
open Go.RowKit Go.Shelf
open Lx (T)

set_option maxHeartbeats 4000000 in
set_option maxRecDepth 100000 in
theorem next_any (s : ByteArray) (i : Nat) (hs : s.size ≤ 4000000000) (hi : i < s.size) (w : World) :
    Calls Tryd.prog 49 #[.string s, .int .i64 i] w (Pair w (Lx.first (s.data.toList.drop i))) := by
  have hd := drop_at s i hi
  have hf := Lx.first_cons s[i] (s.data.toList.drop (i + 1))
  have hw := rword_cons s[i] (s.data.toList.drop (i + 1))
  rw [← hd] at hf hw
  have hwp : Lx.letter s[i] = true → 0 < Lx.wordLen (s[i] :: s.data.toList.drop (i + 1)) := Lx.wordLen_pos s[i] (s.data.toList.drop (i + 1))
  have b1 := (Lx.closedLen_le 34 (s.data.toList.drop i)).1
  have b2 := Lx.closedLen_le 39 (s.data.toList.drop i)
  have b3 := Lx.signLen_le (s.data.toList.drop i)
  have b4 := Lx.numLen_le (s.data.toList.drop i)
  have b5 := Lx.wordLen_le (s.data.toList.drop i)
  rw [← hd] at hwp
  rw [List.length_drop, size_list] at b1 b2 b3 b4 b5
  have hr34 : rq 34 (s.data.toList.drop i) = Lx.closedLen 34 (s.data.toList.drop i) := by unfold rq; rw [if_neg (fun h => absurd h.1 (by decide))]
  have hr39 : rq 39 (s.data.toList.drop i) = if Lx.closedLen 39 (s.data.toList.drop i) = 2 then 0 else Lx.closedLen 39 (s.data.toList.drop i) := by unfold rq; simp
  obtain ⟨P, hP⟩ : ∃ P, P = Lx.first (s.data.toList.drop i) := ⟨_, rfl⟩
  obtain ⟨A, hA⟩ : ∃ A, A = Lx.closedLen 34 (s.data.toList.drop i) := ⟨_, rfl⟩
  obtain ⟨B, hB⟩ : ∃ B, B = Lx.closedLen 39 (s.data.toList.drop i) := ⟨_, rfl⟩
  obtain ⟨C, hC⟩ : ∃ C, C = Lx.signLen (s.data.toList.drop i) := ⟨_, rfl⟩
  obtain ⟨N, hN⟩ : ∃ N, N = Lx.numLen (s.data.toList.drop i) := ⟨_, rfl⟩
  obtain ⟨V, hV⟩ : ∃ V, V = Lx.wordLen (s.data.toList.drop i) := ⟨_, rfl⟩
  rw [← hP] at hf ⊢
  rw [← hA, ← hB, ← hC, ← hN, ← hV] at hf
  rw [← hA] at b1 hr34
  rw [← hB] at b2 hr39
  rw [← hC] at b3
  rw [← hN] at b4
  rw [← hV] at b5 hwp hw
  have HC := Lib.hid hC
  have HN := Lib.hid hN
  have H34 := Lib.hid hr34
  have H39 := Lib.hid hr39
  clear hP hA hB hC hN hV hr34 hr39 hd
  by_cases h10 : s[i] = 10
  · rw [if_pos h10] at hf
    have t1 : ((s[i].toNat : Int) == 10) = true := u8_eq h10
    subst hf
    clear h10 hwp hw b2
    go_enter Tryd.func49, Tryd.ntmps49
    go_wp2_with fail
    go_ret2
    exact ⟨rfl, Below.refl _ _⟩
  · rw [if_neg h10] at hf
    have t1 : ((s[i].toNat : Int) == 10) = false := u8_ne h10
    clear h10
    cases hL : Lx.letter s[i] with
    | true =>
      rw [if_pos hL] at hf hw
      have hv := hwp hL
      subst hf
      have HW := Lib.hid hw
      clear hwp hw hL b2
      go_enter Tryd.func49, Tryd.ntmps49
      go_wp2_with fail
      refine (word_any s i hs hi _).mono ?_
      rintro e w' ⟨rfl, rfl⟩
      rw [HW.out]
      go_wp2_with fail
      go_ret2
      exact ⟨rfl, Below.refl _ _⟩
    | false =>
      rw [if_neg (by rw [hL]; simp)] at hf hw
      have HW := Lib.hid hw
      clear hwp hw hL
      by_cases hn0 : 0 < N
      · rw [if_pos hn0] at hf
        subst hf
        clear b2
        go_enter Tryd.func49, Tryd.ntmps49
        go_wp2_with fail
        refine (word_any s i hs hi _).mono ?_
        rintro e w' ⟨rfl, rfl⟩
        rw [HW.out]
        go_wp2_with fail
        refine (rnumber_any s i hs hi _).mono ?_
        rintro e w' ⟨rfl, rfl⟩
        rw [← HN.out]
        go_wp2_with fail
        go_ret2
        exact ⟨rfl, Below.refl _ _⟩
      · rw [if_neg hn0] at hf
        obtain rfl : N = 0 := by omega
        by_cases ha0 : 0 < A
        · rw [if_pos ha0] at hf
          subst hf
          clear b2
          go_enter Tryd.func49, Tryd.ntmps49
          go_wp2_with fail
          refine (word_any s i hs hi _).mono ?_
          rintro e w' ⟨rfl, rfl⟩
          rw [HW.out]
          go_wp2_with fail
          refine (rnumber_any s i hs hi _).mono ?_
          rintro e w' ⟨rfl, rfl⟩
          rw [← HN.out]
          go_wp2_with fail
          refine (quoted_any s i hs hi 34 (by decide) (by decide) _).mono ?_
          rintro e w' ⟨rfl, rfl⟩
          rw [H34.out]
          go_wp2_with fail
          go_ret2
          exact ⟨rfl, Below.refl _ _⟩
        · rw [if_neg ha0] at hf
          obtain rfl : A = 0 := by omega
          by_cases hb2 : 2 < B
          · rw [if_pos hb2] at hf
            subst hf
            have h39 : rq 39 (s.data.toList.drop i) = B := by rw [H39.out, if_neg (by omega)]
            have H39' := Lib.hid h39
            clear b2 h39
            go_enter Tryd.func49, Tryd.ntmps49
            go_wp2_with fail
            refine (word_any s i hs hi _).mono ?_
            rintro e w' ⟨rfl, rfl⟩
            rw [HW.out]
            go_wp2_with fail
            refine (rnumber_any s i hs hi _).mono ?_
            rintro e w' ⟨rfl, rfl⟩
            rw [← HN.out]
            go_wp2_with fail
            refine (quoted_any s i hs hi 34 (by decide) (by decide) _).mono ?_
            rintro e w' ⟨rfl, rfl⟩
            rw [H34.out]
            go_wp2_with fail
            refine (quoted_any s i hs hi 39 (by decide) (by decide) _).mono ?_
            rintro e w' ⟨rfl, rfl⟩
            rw [H39'.out]
            go_wp2_with fail
            go_ret2
            exact ⟨rfl, Below.refl _ _⟩
          · rw [if_neg hb2] at hf
            have h39 : rq 39 (s.data.toList.drop i) = 0 := by
              rw [H39.out]
              have := b2.2
              split
              · rfl
              · omega
            have H39' := Lib.hid h39
            clear b2 h39
            by_cases hc0 : 0 < C
            · rw [if_pos hc0] at hf
              subst hf
              go_enter Tryd.func49, Tryd.ntmps49
              go_wp2_with fail
              refine (word_any s i hs hi _).mono ?_
              rintro e w' ⟨rfl, rfl⟩
              rw [HW.out]
              go_wp2_with fail
              refine (rnumber_any s i hs hi _).mono ?_
              rintro e w' ⟨rfl, rfl⟩
              rw [← HN.out]
              go_wp2_with fail
              refine (quoted_any s i hs hi 34 (by decide) (by decide) _).mono ?_
              rintro e w' ⟨rfl, rfl⟩
              rw [H34.out]
              go_wp2_with fail
              refine (quoted_any s i hs hi 39 (by decide) (by decide) _).mono ?_
              rintro e w' ⟨rfl, rfl⟩
              rw [H39'.out]
              go_wp2_with fail
              refine (rsign_any s i hs hi _).mono ?_
              rintro e w' ⟨rfl, hBe⟩
              rw [← HC.out]
              go_wp2_with fail
              go_ret2
              exact ⟨rfl, hBe⟩
            · rw [if_neg hc0] at hf
              obtain rfl : C = 0 := by omega
              subst hf
              go_enter Tryd.func49, Tryd.ntmps49
              go_wp2_with fail
              refine (word_any s i hs hi _).mono ?_
              rintro e w' ⟨rfl, rfl⟩
              rw [HW.out]
              go_wp2_with fail
              refine (rnumber_any s i hs hi _).mono ?_
              rintro e w' ⟨rfl, rfl⟩
              rw [← HN.out]
              go_wp2_with fail
              refine (quoted_any s i hs hi 34 (by decide) (by decide) _).mono ?_
              rintro e w' ⟨rfl, rfl⟩
              rw [H34.out]
              go_wp2_with fail
              refine (quoted_any s i hs hi 39 (by decide) (by decide) _).mono ?_
              rintro e w' ⟨rfl, rfl⟩
              rw [H39'.out]
              go_wp2_with fail
              refine (rsign_any s i hs hi _).mono ?_
              rintro e w' ⟨rfl, hBe⟩
              rw [← HC.out]
              go_wp2_with fail
              go_ret2
              exact ⟨rfl, hBe⟩
end Go.Proofs.YtlkcmegjbdibcaaDoor
