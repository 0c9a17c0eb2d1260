/- What is proved: what Span tells, and the document's own Span: the same. -/
import Derived.Test.YtenlbeagmaehlaaRefJ
import Derived.Test.YtenlbeagmaehlaaRefT
namespace Go.Proofs.Ytenlbeagmaehlaa
open Go.RowKit Go.Shelf

/-- What bytes take up: two places, and what is wrong. -/
def spanOf (t : List UInt8) (f g : Int) : Int × Int × Int :=
  if f < 0 ∨ g < f ∨ ((Sp.left 0 t).length : Int) < g then (0, 0, 20)
  else if f = g then (placeOf t f.toNat, placeOf t f.toNat, 0)
  else (placeOf t f.toNat, placeOf t (g.toNat - 1) + 1, 0)

def SpanPost (w : World) (t : List UInt8) (f g : Int) (e : Ending) (w' : World) : Prop :=
  e = .returned (.tuple #[.int .i64 (spanOf t f g).1, .int .i64 (spanOf t f g).2.1, .int .i64 (spanOf t f g).2.2]) ∧ Below w.heap.size w w'

theorem span_wrong {t : List UInt8} {f g : Int} (h : f < 0 ∨ g < f ∨ ((Sp.left 0 t).length : Int) < g) : spanOf t f g = (0, 0, 20) := if_pos h
theorem span_none {t : List UInt8} {n : Nat} (h : n ≤ (Sp.left 0 t).length) : spanOf t n n = ((placeOf t n : Int), (placeOf t n : Int), 0) := by
  unfold spanOf; rw [if_neg (by omega), if_pos rfl]; simp
theorem span_some {t : List UInt8} {n m : Nat} (h : n < m) (hm : m ≤ (Sp.left 0 t).length) : spanOf t n m = ((placeOf t n : Int), (placeOf t (m - 1) : Int) + 1, 0) := by
  unfold spanOf; rw [if_neg (by omega), if_neg (by omega)]; simp

theorem placeOf_le (t : List UInt8) (n : Nat) : placeOf t n ≤ t.length := by
  unfold placeOf
  cases h : (Sp.left 0 t)[n]? with
  | none => exact Nat.le_refl _
  | some x => have := Sp.left_lt (List.mem_of_getElem? h); simp at this ⊢; omega

set_option maxRecDepth 100000 in
set_option maxHeartbeats 1000000 in
theorem span_any (s : ByteArray) (hs : s.size ≤ 4000000000) (f g : Int) (w : World) (hG : Glob w) :
    Calls Try.prog 15 #[.string s, .int .i64 f, .int .i64 g] w (SpanPost w s.data.toList f g) := by
  have hle := Sp.left_le 0 s.data.toList
  rw [size_list] at hle
  by_cases h1 : f < 0
  · have HS := Lib.hid (span_wrong (t := s.data.toList) (f := f) (g := g) (.inl h1))
    go_enter Try.func15, Try.ntmps15
    go_wp2_with fail
    go_ret3
    exact ⟨by rw [HS.out]; rfl, Below.refl _ _⟩
  · by_cases h2 : g < f
    · have HS := Lib.hid (span_wrong (t := s.data.toList) (f := f) (g := g) (.inr (.inl h2)))
      have h1' : 0 ≤ f := by omega
      clear h1
      go_enter Try.func15, Try.ntmps15
      go_wp2_with fail
      go_ret3
      exact ⟨by rw [HS.out]; rfl, Below.refl _ _⟩
    · have h1' : 0 ≤ f := by omega
      have h2' : f ≤ g := by omega
      by_cases h3 : ((Sp.left 0 s.data.toList).length : Int) < g
      · have HS := Lib.hid (span_wrong (t := s.data.toList) (f := f) (g := g) (.inr (.inr h3)))
        clear h1 h2
        go_enter Try.func15, Try.ntmps15
        go_wp2_with fail
        refine (kept_any s _ hG hs).mono ?_
        rintro e w' ⟨rfl, rfl⟩
        go_wp2_with fail
        go_ret3
        exact ⟨by rw [HS.out]; rfl, Below.refl _ _⟩
      · obtain ⟨n, rfl⟩ := Int.eq_ofNat_of_zero_le h1'
        obtain ⟨m, rfl⟩ := Int.eq_ofNat_of_zero_le (Int.le_trans h1' h2')
        have hn : n ≤ m := by omega
        have hm : m ≤ (Sp.left 0 s.data.toList).length := by omega
        have hm' : ¬ ((Sp.left 0 s.data.toList).length : Int) < (m : Int) := by omega
        have hp := placeOf_le s.data.toList (m - 1)
        rw [size_list] at hp
        clear h1 h2 h3 h1' h2'
        by_cases h4 : n = m
        · subst h4
          have HS := Lib.hid (span_none (t := s.data.toList) (n := n) hm)
          clear hp
          go_enter Try.func15, Try.ntmps15
          go_wp2_with fail
          refine (kept_any s _ hG hs).mono ?_
          rintro e w' ⟨rfl, rfl⟩
          go_wp2_with fail
          refine (place_any s hs n (by omega) _).mono ?_
          rintro e w1 ⟨rfl, hB⟩
          go_wp2_with fail
          go_ret3
          exact ⟨by rw [HS.out]; rfl, hB⟩
        · have h5 : n < m := by omega
          have HS := Lib.hid (span_some (t := s.data.toList) h5 hm)
          have h6 : ((n : Int) == (m : Int)) = false := beq_eq_false_iff_ne.2 (by omega)
          clear h4
          go_enter Try.func15, Try.ntmps15
          go_wp2_with fail
          refine (kept_any s _ hG hs).mono ?_
          rintro e w' ⟨rfl, rfl⟩
          go_wp2_with fail
          refine (place_any s hs n (by omega) _).mono ?_
          rintro e w1 ⟨rfl, hB⟩
          go_wp2_with fail
          rw [show (m : Int) - 1 = ((m - 1 : Nat) : Int) by omega]
          refine (place_any s hs (m - 1) (by omega) _).mono ?_
          rintro e w2 ⟨rfl, hB2⟩
          go_wp2_with fail
          go_ret3
          exact ⟨by rw [HS.out]; rfl, hB.trans (hB2.mono hB.size)⟩

theorem placeOf_some {t : List UInt8} {n : Nat} {x : Sp.Ch} (h : (Sp.left 0 t)[n]? = some x) : placeOf t n = x.2 := by unfold placeOf; rw [h]
theorem placeOf_end {t : List UInt8} {n : Nat} (h : (Sp.left 0 t).length ≤ n) : placeOf t n = t.length := by unfold placeOf; rw [List.getElem?_eq_none h]

set_option maxRecDepth 100000 in
set_option maxHeartbeats 1000000 in
theorem refspan_any (s : ByteArray) (hs : s.size ≤ 4000000000) (f g : Int) (w : World) :
    Calls Try.prog 16 #[.string s, .int .i64 f, .int .i64 g] w (SpanPost w s.data.toList f g) := by
  have hle := Sp.left_le 0 s.data.toList
  rw [size_list] at hle
  by_cases hw : f < 0 ∨ g < f ∨ ((Sp.left 0 s.data.toList).length : Int) < g
  · have HS := Lib.hid (span_wrong (t := s.data.toList) (f := f) (g := g) hw)
    have hcase : f < 0 ∨ (0 ≤ f ∧ g < f) ∨ (0 ≤ f ∧ f ≤ g ∧ ((Sp.left 0 s.data.toList).length : Int) < g) := by omega
    clear hw
    rcases hcase with h1 | ⟨h1, h2⟩ | ⟨h1, h2, h3⟩
    all_goals
      go_enter Try.func16, Try.ntmps16
      go_wp2_with fail
      refine (refjoin_any s hs _).mono ?_
      rintro e w1 ⟨v, rfl, hv, hB⟩
      obtain ⟨ad, cap, rfl, -⟩ := hv
      go_wp2_with fail
      go_ret3
      exact ⟨by rw [HS.out]; rfl, hB⟩
  · have h1 : 0 ≤ f := by omega
    have h2 : f ≤ g := by omega
    obtain ⟨n, rfl⟩ := Int.eq_ofNat_of_zero_le h1
    obtain ⟨m, rfl⟩ := Int.eq_ofNat_of_zero_le (Int.le_trans h1 h2)
    have hn : n ≤ m := by omega
    have hm : m ≤ (Sp.left 0 s.data.toList).length := by omega
    clear hw h1 h2
    by_cases h4 : n = m
    · subst h4
      have hS := span_none (t := s.data.toList) (n := n) hm
      by_cases h5 : n = (Sp.left 0 s.data.toList).length
      · rw [placeOf_end (by omega), size_list] at hS
        have HS := Lib.hid hS
        have H5 := Lib.hid h5
        clear hS h5
        go_enter Try.func16, Try.ntmps16
        go_wp2_with fail
        refine (refjoin_any s hs _).mono ?_
        rintro e w1 ⟨v, rfl, hv, hB⟩
        obtain ⟨ad, cap, rfl, -⟩ := hv
        rw [← H5.out]
        go_wp2_with fail
        go_ret3
        exact ⟨by rw [HS.out]; rfl, hB⟩
      · have h6 : n < (Sp.left 0 s.data.toList).length := by omega
        obtain ⟨x, hx⟩ : ∃ x, (Sp.left 0 s.data.toList)[n]? = some x := ⟨_, List.getElem?_eq_getElem h6⟩
        rw [placeOf_some hx] at hS
        have HS := Lib.hid hS
        have HX := Lib.hid hx
        have h7 : ((n : Int) == ((Sp.left 0 s.data.toList).length : Int)) = false := beq_eq_false_iff_ne.2 (by omega)
        clear hS h5 hx
        go_enter Try.func16, Try.ntmps16
        go_wp2_with fail
        refine (refjoin_any s hs _).mono ?_
        rintro e w1 ⟨v, rfl, hv, hB⟩
        obtain ⟨ad, cap, rfl, -⟩ := id hv
        obtain ⟨gb, o, rfl, _, hcap, hmax, hg, hc⟩ := hv.cells (by omega)
        obtain ⟨-, c1⟩ := hc n x HX.out
        unfold maxLen at hmax
        clear hc hv
        have z1 : (0 : Int) ≤ n := by omega
        have z2 : (n : Int) < (Sp.left 0 s.data.toList).length := by omega
        go_wp2_with fail
        go_quiet (fail)
        go_wp2_with fail
        go_ret3
        exact ⟨by rw [HS.out]; rfl, below_drewN hB _⟩
    · have h5 : n < m := by omega
      have hS := span_some (t := s.data.toList) h5 hm
      obtain ⟨x, hx⟩ : ∃ x, (Sp.left 0 s.data.toList)[n]? = some x := ⟨_, List.getElem?_eq_getElem (by omega)⟩
      obtain ⟨y, hy⟩ : ∃ y, (Sp.left 0 s.data.toList)[m - 1]? = some y := ⟨_, List.getElem?_eq_getElem (by omega)⟩
      have hyl := Sp.left_lt (List.mem_of_getElem? hy)
      rw [size_list] at hyl
      rw [placeOf_some hx, placeOf_some hy] at hS
      have HS := Lib.hid hS
      have HX := Lib.hid hx
      have HY := Lib.hid hy
      have h6 : ((n : Int) == (m : Int)) = false := beq_eq_false_iff_ne.2 (by omega)
      have h8 : (y.2 : Int) ≤ 4000000000 := by omega
      clear hS h4 hx hy hyl
      go_enter Try.func16, Try.ntmps16
      go_wp2_with fail
      refine (refjoin_any s hs _).mono ?_
      rintro e w1 ⟨v, rfl, hv, hB⟩
      obtain ⟨ad, cap, rfl, -⟩ := id hv
      obtain ⟨gb, o, rfl, _, hcap, hmax, hg, hc⟩ := hv.cells (by omega)
      obtain ⟨-, c1⟩ := hc n x HX.out
      obtain ⟨-, c2⟩ := hc (m - 1) y HY.out
      unfold maxLen at hmax
      clear hc hv
      have z1 : (0 : Int) ≤ n := by omega
      have z2 : (n : Int) < (Sp.left 0 s.data.toList).length := by omega
      obtain ⟨q, rfl⟩ : ∃ q, m = q + 1 := ⟨m - 1, by omega⟩
      rw [show q + 1 - 1 = q from rfl] at c2
      have z3 : (0 : Int) ≤ q := by omega
      have z4 : (q : Int) < (Sp.left 0 s.data.toList).length := by omega
      go_wp2_with fail
      go_quiet (fail)
      go_wp2_with fail
      go_ret3
      exact ⟨by rw [HS.out]; rfl, below_drewN hB _⟩
end Go.Proofs.Ytenlbeagmaehlaa
