/- What is proved: SpliceJoins, SpliceSpans and SpliceSpreads answer true, in whatever memory. -/
import Derived.Test.YtenlbeagmaehlaaAwake
namespace Go.Proofs.Ytenlbeagmaehlaa
open Go.RowKit Go.Shelf

def TruePost (w : World) (e : Ending) (w' : World) : Prop := e = .returned (.bool true) ∧ Below w.heap.size w w'

set_option maxRecDepth 100000 in
set_option maxHeartbeats 4000000 in
theorem joins_any (s : ByteArray) (hm : s.size ≤ maxLen) (w : World) (hG : Glob w) : Calls Try.prog 3 #[.string s] w (TruePost w) := by
  unfold maxLen at hm
  have HG := Lib.hid hG
  clear hG
  by_cases hs : s.size ≤ 2000
  · have hle := Sp.left_le 0 s.data.toList
    have hcn := Sp.left_count s.data.toList 0
    rw [size_list] at hle hcn
    obtain ⟨n, hn⟩ : ∃ n, n = Lib.count s.data.toList [92, 10] := ⟨_, rfl⟩
    obtain ⟨l, hl⟩ : ∃ l, l = Sp.left 0 s.data.toList := ⟨_, rfl⟩
    rw [← hn] at hcn
    rw [← hl] at hcn hle
    have Hn := Lib.hid hn
    have Hl := Lib.hid hl
    have hq : ((2 * (n : Int)) == (s.size : Int) - (l.length : Int)) = true := beq_iff_eq.2 (by omega)
    have hq1 : (0 : Int) ≤ n := by omega
    have hq2 : (n : Int) ≤ 2000 := by omega
    clear hn hl hcn
    go_enter Try.func3, Try.ntmps3
    go_wp2_with fail
    refine (awake_any _ HG.out).mono ?_
    rintro e w1 ⟨rfl, hB1⟩
    go_wp2_with fail
    refine (join_any s (by omega) _ (HG.out.later hB1)).mono ?_
    rintro e w2 ⟨v, rfl, hv, hB2⟩
    rw [← Hl.out] at hv
    obtain ⟨ad, cap, rfl, -⟩ := id hv
    replace hB2 := Below.then hB1 hB2
    clear hB1
    go_wp2_with fail
    refine (refjoin_any s (by omega) _).mono ?_
    rintro e w3 ⟨u, rfl, hu, hB3⟩
    rw [← Hl.out] at hu
    obtain ⟨ad2, cap2, rfl, -⟩ := id hu
    replace hv := hv.below hB3
    replace hB3 := Below.then hB2 hB3
    clear hB2
    go_wp2_with fail
    refine (pairs_any s _ (HG.out.later hB3) (by omega)).mono ?_
    rintro e w4 ⟨rfl, rfl⟩
    rw [← Hn.out]
    go_wp2_with fail
    refine (text_any _ l _ hv (by omega)).mono ?_
    rintro e w5 ⟨rfl, hB5⟩
    replace hv := hv.below hB5
    replace hu := hu.below hB5
    replace hB5 := Below.then hB3 hB5
    clear hB3
    go_wp2_with fail
    refine (same_any _ _ l _ hv hu (by omega)).mono ?_
    rintro e w6 ⟨rfl, hB6⟩
    replace hu := hu.below hB6
    replace hB6 := Below.then hB5 hB6
    clear hB5 hv
    go_wp2_with fail
    refine (reftext_any _ l _ hu (by omega)).mono ?_
    rintro e w7 ⟨rfl, hB7⟩
    replace hB7 := Below.then hB6 hB7
    clear hB6 hu
    go_wp2_with fail
    go_ret
    exact ⟨rfl, hB7⟩
  · go_enter Try.func3, Try.ntmps3
    go_wp2_with fail
    refine (awake_any _ HG.out).mono ?_
    rintro e w1 ⟨rfl, hB1⟩
    go_wp2_with fail
    go_ret
    exact ⟨rfl, hB1⟩

set_option maxRecDepth 100000 in
set_option maxHeartbeats 4000000 in
theorem spans_any (s : ByteArray) (hm : s.size ≤ maxLen) (f g : Int) (w : World) (hG : Glob w) : Calls Try.prog 4 #[.string s, .int .i64 f, .int .i64 g] w (TruePost w) := by
  unfold maxLen at hm
  have HG := Lib.hid hG
  clear hG
  by_cases hs : s.size ≤ 2000
  · go_enter Try.func4, Try.ntmps4
    go_wp2_with fail
    refine (awake_any _ HG.out).mono ?_
    rintro e w1 ⟨rfl, hB1⟩
    go_wp2_with fail
    refine (span_any s (by omega) f g _ (HG.out.later hB1)).mono ?_
    rintro e w2 ⟨rfl, hB2⟩
    replace hB2 := Below.then hB1 hB2
    clear hB1
    go_wp2_with fail
    refine (refspan_any s (by omega) f g _).mono ?_
    rintro e w3 ⟨rfl, hB3⟩
    replace hB3 := Below.then hB2 hB3
    clear hB2
    go_wp2_with fail
    go_ret
    exact ⟨rfl, hB3⟩
  · go_enter Try.func4, Try.ntmps4
    go_wp2_with fail
    refine (awake_any _ HG.out).mono ?_
    rintro e w1 ⟨rfl, hB1⟩
    go_wp2_with fail
    go_ret
    exact ⟨rfl, hB1⟩

set_option maxRecDepth 100000 in
set_option maxHeartbeats 4000000 in
theorem spreads_any (s : ByteArray) (hm : s.size ≤ maxLen) (v : Value) (ps : List Int) (w : World) (hv : Ints w v ps) (hG : Glob w) : Calls Try.prog 5 #[.string s, v] w (TruePost w) := by
  unfold maxLen at hm
  have HG := Lib.hid hG
  clear hG
  obtain ⟨ad, cap, rfl, h1, h2, -⟩ := id hv
  unfold maxLen at h2
  obtain ⟨n, hn⟩ : ∃ n, n = ps.length := ⟨_, rfl⟩
  rw [← hn] at h1 hv ⊢
  have Hn := Lib.hid hn
  have HV := Lib.hid hv
  clear hn hv
  by_cases hs : s.size ≤ 400
  · by_cases hp : n ≤ 50
    · go_enter Try.func5, Try.ntmps5
      go_wp2_with fail
      refine (awake_any _ HG.out).mono ?_
      rintro e w1 ⟨rfl, hB1⟩
      go_wp2_with fail
      have hv := HV.out.below hB1
      refine (spread_any s (by omega) _ ps _ hv (by rw [← Hn.out]; omega)).mono ?_
      rintro e w2 ⟨rfl, hB2⟩
      replace hv := hv.below hB2
      replace hB2 := Below.then hB1 hB2
      clear hB1
      go_wp2_with fail
      refine (refspread_any s (by omega) _ ps _ hv (by rw [← Hn.out]; omega)).mono ?_
      rintro e w3 ⟨rfl, hB3⟩
      replace hB3 := Below.then hB2 hB3
      clear hB2 hv
      go_wp2_with fail
      go_ret
      exact ⟨rfl, hB3⟩
    · go_enter Try.func5, Try.ntmps5
      go_wp2_with fail
      refine (awake_any _ HG.out).mono ?_
      rintro e w1 ⟨rfl, hB1⟩
      go_wp2_with fail
      go_ret
      exact ⟨rfl, hB1⟩
  · go_enter Try.func5, Try.ntmps5
    go_wp2_with fail
    refine (awake_any _ HG.out).mono ?_
    rintro e w1 ⟨rfl, hB1⟩
    go_wp2_with fail
    go_ret
    exact ⟨rfl, hB1⟩
end Go.Proofs.Ytenlbeagmaehlaa
