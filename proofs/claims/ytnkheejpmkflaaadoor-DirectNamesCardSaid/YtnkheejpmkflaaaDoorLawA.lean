/- What is proved: DirectPlays, DirectRaw, DirectWords and DirectTargets answer true, in whatever memory. -/
import Derived.Test.YtnkheejpmkflaaaDoorAwake
import Derived.Test.YtnkheejpmkflaaaDoorD6
namespace Go.Proofs.YtnkheejpmkflaaaDoor
open Go.RowKit Go.Shelf

set_option maxRecDepth 100000 in
set_option maxHeartbeats 4000000 in
theorem dplays_any (s : ByteArray) (hm : s.size ≤ maxLen) (w : World) (hG : Glob w) : Calls Tryd.prog 3 #[.string s] w (TruePost w) := by
  unfold maxLen at hm
  have HG := Lib.hid hG
  clear hG
  by_cases hs : s.size ≤ 2000
  · have hfit := Dx.fit_ks s (by omega)
    have hlen := hfit.len
    have hll := Dx.lines_len (Dx.ks s)
    have hlt := Dx.lines_toks (Dx.ks s)
    obtain ⟨ts, hts⟩ : ∃ ts, ts = Dx.ks s := ⟨_, rfl⟩
    rw [← hts] at hlen hll hlt
    have HT := Lib.hid hts
    have hb1 : ts.length * 56 ≤ 140737488355328 := by omega
    have hb2 : (Dx.lines ts).length * 48 ≤ 140737488355328 := by omega
    have hb3 : ∀ x ∈ Dx.lines ts, x.toks.length * 56 ≤ 140737488355328 := fun x hx => by have := hlt x hx; omega
    have HB1 := Lib.hid hb1
    have HB2 := Lib.hid hb2
    have HB3 := Lib.hid hb3
    obtain ⟨ls, hls⟩ : ∃ ls, ls = Dx.lines ts := ⟨_, rfl⟩
    rw [← hls] at HB2 HB3
    have HL := Lib.hid hls
    clear hfit hlen hll hlt hts hb1 hb2 hb3 hls
    go_enter Tryd.func3, Tryd.ntmps3
    go_wp2_with fail
    refine (awake_any _ HG.out).mono ?_
    rintro e w1 ⟨rfl, hB1⟩
    go_wp2_with fail
    refine (tokens_any 0 s (by omega) _ (HG.out.later hB1)).mono ?_
    rintro e w2 ⟨v, rfl, hv, hB2⟩
    have hk : Ks w2 v ts := by rw [HT.out]; exact hv.ks
    replace hB2 := Below.then hB1 hB2
    clear hB1 hv
    go_wp2_with fail
    refine (lines_any v ts _ hk HB1.out (HG.out.later hB2)).mono ?_
    rintro e w3 ⟨u, rfl, hu, hB3⟩
    rw [← HL.out] at hu
    replace hB3 := Below.then hB2 hB3
    clear hB2 hk
    go_wp2_with fail
    refine (rtokens_any 0 s (by omega) _).mono ?_
    rintro e w4 ⟨v4, rfl, hv4, hB4⟩
    have hk4 : Ks w4 v4 ts := by rw [HT.out]; exact hv4.ks
    replace hu := hu.below hB4
    replace hB4 := Below.then hB3 hB4
    clear hB3 hv4
    go_wp2_with fail
    refine (rlines_any v4 ts _ hk4 HB1.out).mono ?_
    rintro e w5 ⟨u5, rfl, hu5, hB5⟩
    rw [← HL.out] at hu5
    replace hu := hu.below hB5
    replace hB5 := Below.then hB4 hB5
    clear hB4 hk4
    go_wp2_with fail
    refine (same4_any u u5 ls _ hu hu5 HB2.out HB3.out).mono ?_
    rintro e w6 ⟨rfl, hB6⟩
    replace hB6 := Below.then hB5 hB6
    go_wp2_with fail
    go_ret
    exact ⟨rfl, hB6⟩
  · go_enter Tryd.func3, Tryd.ntmps3
    go_wp2_with fail
    refine (awake_any _ HG.out).mono ?_
    rintro e w1 ⟨rfl, hB1⟩
    go_wp2_with fail
    go_ret
    exact ⟨rfl, hB1⟩

set_option maxRecDepth 100000 in
set_option maxHeartbeats 4000000 in
theorem draw_any (v : Value) (ts : List K) (w : World) (hv : Ks w v ts) (hl : ts.length * 56 ≤ 140737488355328) (hG : Glob w) : Calls Tryd.prog 4 #[v] w (TruePost w) := by
  have HG := Lib.hid hG
  have HB1 := Lib.hid hl
  have hll := Dx.lines_len ts
  have hlt := Dx.lines_toks ts
  have hb2 : (Dx.lines ts).length * 48 ≤ 140737488355328 := by omega
  have hb3 : ∀ x ∈ Dx.lines ts, x.toks.length * 56 ≤ 140737488355328 := fun x hx => by have := hlt x hx; omega
  have HB2 := Lib.hid hb2
  have HB3 := Lib.hid hb3
  obtain ⟨ls, hls⟩ : ∃ ls, ls = Dx.lines ts := ⟨_, rfl⟩
  rw [← hls] at HB2 HB3
  have HL := Lib.hid hls
  have HV := Lib.hid hv
  clear hG hll hlt hb2 hb3 hls hv
  go_enter Tryd.func4, Tryd.ntmps4
  go_wp2_with fail
  refine (awake_any _ HG.out).mono ?_
  rintro e w1 ⟨rfl, hB1⟩
  have hk := HV.out.below hB1
  go_wp2_with fail
  refine (lines_any v ts _ hk HB1.out (HG.out.later hB1)).mono ?_
  rintro e w3 ⟨u, rfl, hu, hB3⟩
  rw [← HL.out] at hu
  replace hk := hk.below hB3
  replace hB3 := Below.then hB1 hB3
  clear hB1
  go_wp2_with fail
  refine (rlines_any v ts _ hk HB1.out).mono ?_
  rintro e w5 ⟨u5, rfl, hu5, hB5⟩
  rw [← HL.out] at hu5
  replace hu := hu.below hB5
  replace hB5 := Below.then hB3 hB5
  clear hB3 hk
  go_wp2_with fail
  refine (same4_any u u5 ls _ hu hu5 HB2.out HB3.out).mono ?_
  rintro e w6 ⟨rfl, hB6⟩
  replace hB6 := Below.then hB5 hB6
  go_wp2_with fail
  go_ret
  exact ⟨rfl, hB6⟩

theorem words_word (x : ByteArray) : (Dx.kindOf x = 0 ∧ Dx.wordOf (Dx.kindOf x) = ⟨#[]⟩) ∨ (Dx.kindOf x ≠ 0 ∧ Dx.wordOf (Dx.kindOf x) = x) := by
  rcases Dx.kind_cases x with h | ⟨k, hk, rfl⟩
  · rw [Dx.kind_miss x h]
    exact .inl ⟨rfl, Dx.word_none 0 (by omega)⟩
  · rw [Dx.kind_hit k hk]
    exact .inr ⟨by omega, Dx.word_of k hk⟩
theorem words_kind (k : Int) : (2 ≤ k ∧ k ≤ 13 ∧ Dx.kindOf (Dx.wordOf k) = k) ∨ (¬ (2 ≤ k ∧ k ≤ 13) ∧ Dx.wordOf k = ⟨#[]⟩ ∧ Dx.kindOf (Dx.wordOf k) = 0) := by
  by_cases h : 2 ≤ k ∧ k ≤ 13
  · obtain ⟨m, rfl⟩ : ∃ m : Nat, k = (m : Int) + 2 := ⟨(k - 2).toNat, by omega⟩
    refine .inl ⟨h.1, h.2, ?_⟩
    rw [Dx.word_of m (by omega), Dx.kind_hit m (by omega)]
  · rw [Dx.word_none k h]
    exact .inr ⟨h, rfl, by decide⟩

set_option maxRecDepth 100000 in
set_option maxHeartbeats 4000000 in
theorem dwords_any (x : ByteArray) (k : Int) (w : World) (hG : Glob w) : Calls Tryd.prog 5 #[.string x, .int .i64 k] w (TruePost w) := by
  have HG := Lib.hid hG
  have h1 := words_word x
  have h2 := words_kind k
  obtain ⟨q, hq⟩ : ∃ q, q = Dx.kindOf x := ⟨_, rfl⟩
  obtain ⟨y, hy⟩ : ∃ y, y = Dx.wordOf k := ⟨_, rfl⟩
  rw [← hq] at h1
  rw [← hy] at h2
  obtain ⟨b, hb⟩ : ∃ b, b = Dx.kindOf y := ⟨_, rfl⟩
  obtain ⟨o, ho⟩ : ∃ o, o = Dx.wordOf q := ⟨_, rfl⟩
  rw [← ho] at h1
  rw [← hb] at h2
  have HQ := Lib.hid hq
  have HY := Lib.hid hy
  have HBk := Lib.hid hb
  have HO := Lib.hid ho
  clear hG hq hy hb ho
  rcases h1 with ⟨rfl, rfl⟩ | ⟨hq0, rfl⟩ <;> rcases h2 with ⟨k1, k2, rfl⟩ | ⟨k1, rfl, rfl⟩
  · go_enter Tryd.func5, Tryd.ntmps5
    go_wp2_with fail
    refine (awake_any _ HG.out).mono ?_
    rintro e w1 ⟨rfl, hB1⟩
    go_wp2_with fail
    refine (kind_any _ _ (HG.out.later hB1)).mono ?_
    rintro e w2 ⟨rfl, rfl⟩
    rw [← HQ.out]
    go_wp2_with fail
    refine (dword_any _ _ (HG.out.later hB1)).mono ?_
    rintro e w2 ⟨rfl, rfl⟩
    rw [← HY.out]
    go_wp2_with fail
    refine (kind_any _ _ (HG.out.later hB1)).mono ?_
    rintro e w2 ⟨rfl, rfl⟩
    rw [← HBk.out]
    go_wp2_with fail
    refine (dword_any _ _ (HG.out.later hB1)).mono ?_
    rintro e w2 ⟨rfl, rfl⟩
    rw [← HO.out]
    go_wp2_with fail
    refine (rkind_any _ _).mono ?_
    rintro e w2 ⟨rfl, rfl⟩
    rw [← HQ.out]
    go_wp2_with fail
    go_ret
    exact ⟨rfl, hB1⟩
  · rcases Int.lt_or_le k 2 with hk2 | hk2
    · go_enter Tryd.func5, Tryd.ntmps5
      go_wp2_with fail
      refine (awake_any _ HG.out).mono ?_
      rintro e w1 ⟨rfl, hB1⟩
      go_wp2_with fail
      refine (kind_any _ _ (HG.out.later hB1)).mono ?_
      rintro e w2 ⟨rfl, rfl⟩
      rw [← HQ.out]
      go_wp2_with fail
      refine (dword_any _ _ (HG.out.later hB1)).mono ?_
      rintro e w2 ⟨rfl, rfl⟩
      rw [← HY.out]
      go_wp2_with fail
      refine (kind_any _ _ (HG.out.later hB1)).mono ?_
      rintro e w2 ⟨rfl, rfl⟩
      rw [← HBk.out]
      go_wp2_with fail
      refine (dword_any _ _ (HG.out.later hB1)).mono ?_
      rintro e w2 ⟨rfl, rfl⟩
      rw [← HO.out]
      go_wp2_with fail
      refine (rkind_any _ _).mono ?_
      rintro e w2 ⟨rfl, rfl⟩
      rw [← HQ.out]
      go_wp2_with fail
      go_ret
      exact ⟨rfl, hB1⟩
    · have hk13 : 13 < k := by omega
      go_enter Tryd.func5, Tryd.ntmps5
      go_wp2_with fail
      refine (awake_any _ HG.out).mono ?_
      rintro e w1 ⟨rfl, hB1⟩
      go_wp2_with fail
      refine (kind_any _ _ (HG.out.later hB1)).mono ?_
      rintro e w2 ⟨rfl, rfl⟩
      rw [← HQ.out]
      go_wp2_with fail
      refine (dword_any _ _ (HG.out.later hB1)).mono ?_
      rintro e w2 ⟨rfl, rfl⟩
      rw [← HY.out]
      go_wp2_with fail
      refine (kind_any _ _ (HG.out.later hB1)).mono ?_
      rintro e w2 ⟨rfl, rfl⟩
      rw [← HBk.out]
      go_wp2_with fail
      refine (dword_any _ _ (HG.out.later hB1)).mono ?_
      rintro e w2 ⟨rfl, rfl⟩
      rw [← HO.out]
      go_wp2_with fail
      refine (rkind_any _ _).mono ?_
      rintro e w2 ⟨rfl, rfl⟩
      rw [← HQ.out]
      go_wp2_with fail
      go_ret
      exact ⟨rfl, hB1⟩
  · have q1 : (q == 0) = false := by simpa using hq0
    have q2 : (q != 0) = true := by simpa using hq0
    go_enter Tryd.func5, Tryd.ntmps5
    go_wp2_with fail
    refine (awake_any _ HG.out).mono ?_
    rintro e w1 ⟨rfl, hB1⟩
    go_wp2_with fail
    refine (kind_any _ _ (HG.out.later hB1)).mono ?_
    rintro e w2 ⟨rfl, rfl⟩
    rw [← HQ.out]
    go_wp2_with fail
    refine (dword_any _ _ (HG.out.later hB1)).mono ?_
    rintro e w2 ⟨rfl, rfl⟩
    rw [← HY.out]
    go_wp2_with fail
    refine (kind_any _ _ (HG.out.later hB1)).mono ?_
    rintro e w2 ⟨rfl, rfl⟩
    rw [← HBk.out]
    go_wp2_with fail
    refine (dword_any _ _ (HG.out.later hB1)).mono ?_
    rintro e w2 ⟨rfl, rfl⟩
    rw [← HO.out]
    go_wp2_with fail
    refine (rkind_any _ _).mono ?_
    rintro e w2 ⟨rfl, rfl⟩
    rw [← HQ.out]
    go_wp2_with fail
    go_ret
    exact ⟨rfl, hB1⟩
  · have q1 : (q == 0) = false := by simpa using hq0
    have q2 : (q != 0) = true := by simpa using hq0
    rcases Int.lt_or_le k 2 with hk2 | hk2
    · go_enter Tryd.func5, Tryd.ntmps5
      go_wp2_with fail
      refine (awake_any _ HG.out).mono ?_
      rintro e w1 ⟨rfl, hB1⟩
      go_wp2_with fail
      refine (kind_any _ _ (HG.out.later hB1)).mono ?_
      rintro e w2 ⟨rfl, rfl⟩
      rw [← HQ.out]
      go_wp2_with fail
      refine (dword_any _ _ (HG.out.later hB1)).mono ?_
      rintro e w2 ⟨rfl, rfl⟩
      rw [← HY.out]
      go_wp2_with fail
      refine (kind_any _ _ (HG.out.later hB1)).mono ?_
      rintro e w2 ⟨rfl, rfl⟩
      rw [← HBk.out]
      go_wp2_with fail
      refine (dword_any _ _ (HG.out.later hB1)).mono ?_
      rintro e w2 ⟨rfl, rfl⟩
      rw [← HO.out]
      go_wp2_with fail
      refine (rkind_any _ _).mono ?_
      rintro e w2 ⟨rfl, rfl⟩
      rw [← HQ.out]
      go_wp2_with fail
      go_ret
      exact ⟨rfl, hB1⟩
    · have hk13 : 13 < k := by omega
      go_enter Tryd.func5, Tryd.ntmps5
      go_wp2_with fail
      refine (awake_any _ HG.out).mono ?_
      rintro e w1 ⟨rfl, hB1⟩
      go_wp2_with fail
      refine (kind_any _ _ (HG.out.later hB1)).mono ?_
      rintro e w2 ⟨rfl, rfl⟩
      rw [← HQ.out]
      go_wp2_with fail
      refine (dword_any _ _ (HG.out.later hB1)).mono ?_
      rintro e w2 ⟨rfl, rfl⟩
      rw [← HY.out]
      go_wp2_with fail
      refine (kind_any _ _ (HG.out.later hB1)).mono ?_
      rintro e w2 ⟨rfl, rfl⟩
      rw [← HBk.out]
      go_wp2_with fail
      refine (dword_any _ _ (HG.out.later hB1)).mono ?_
      rintro e w2 ⟨rfl, rfl⟩
      rw [← HO.out]
      go_wp2_with fail
      refine (rkind_any _ _).mono ?_
      rintro e w2 ⟨rfl, rfl⟩
      rw [← HQ.out]
      go_wp2_with fail
      go_ret
      exact ⟨rfl, hB1⟩

set_option maxRecDepth 100000 in
set_option maxHeartbeats 4000000 in
theorem dtargets_any (s : ByteArray) (k : Int) (hm : s.size ≤ maxLen) (w : World) (hG : Glob w) : Calls Tryd.prog 6 #[.string s, .int .i64 k] w (TruePost w) := by
  unfold maxLen at hm
  have HG := Lib.hid hG
  clear hG
  by_cases hs : s.size ≤ 300
  · have hfit := Dx.fit_ks s (by omega)
    obtain ⟨ts, hts⟩ : ∃ ts, ts = Dx.ks s := ⟨_, rfl⟩
    rw [← hts] at hfit
    have HT := Lib.hid hts
    have HF := Lib.hid hfit
    obtain ⟨A, hA⟩ : ∃ A, A = Dx.target k ts := ⟨_, rfl⟩
    obtain ⟨B, hB⟩ : ∃ B, B = Dx.target 10 ts := ⟨_, rfl⟩
    have HA := Lib.hid hA
    have HBt := Lib.hid hB
    obtain ⟨a1, a2, a3⟩ := A
    obtain ⟨b1, b2, b3⟩ := B
    clear hfit hts hA hB
    go_enter Tryd.func6, Tryd.ntmps6
    go_wp2_with fail
    refine (awake_any _ HG.out).mono ?_
    rintro e w1 ⟨rfl, hB1⟩
    go_wp2_with fail
    refine (tokens_any 0 s (by omega) _ (HG.out.later hB1)).mono ?_
    rintro e w2 ⟨v, rfl, hv, hB2⟩
    have hk : Ks w2 v ts := by rw [HT.out]; exact hv.ks
    replace hB2 := Below.then hB1 hB2
    obtain ⟨ad, cap, rfl, -⟩ := id hk
    obtain ⟨N, hN⟩ : ∃ N, N = ts.length := ⟨_, rfl⟩
    rw [← hN] at hk ⊢
    clear hB1 hv hN
    have hB3 := (hB2.alloc hB2.size (.cells #[.int .i64 k, .int .i64 0, .int .i64 0, .slice ad N cap] 34)).alloc (by simp; have := hB2.size; omega) (.cells #[.int .i64 10, .int .i64 0, .int .i64 0, .slice ad N cap] 34)
    have hk3 : Ks ((w2.alloc (.cells #[.int .i64 k, .int .i64 0, .int .i64 0, .slice ad N cap] 34)).alloc (.cells #[.int .i64 10, .int .i64 0, .int .i64 0, .slice ad N cap] 34)) (.slice ad N cap) ts := hk.below (((Below.refl _ w2).alloc (Nat.le_refl _) _).alloc (by simp) _)
    have HB3 := Lib.hid hB3
    have HK3 := Lib.hid hk3
    clear hB2 hk hB3 hk3
    go_wp2_with fail
    refine (target_fit k 0 0 (.slice ad N cap) ts _ HK3.out HF.out).mono ?_
    rintro e w4 ⟨rfl, hB4⟩
    rw [← HA.out]
    dsimp only [tgtV]
    have ka := heap_alloc_new w2 (.cells #[.int .i64 k, .int .i64 0, .int .i64 0, .slice ad N cap] 34)
    replace ka := (Below.heap_alloc (w2.alloc (.cells #[.int .i64 k, .int .i64 0, .int .i64 0, .slice ad N cap] 34)) (.cells #[.int .i64 10, .int .i64 0, .int .i64 0, .slice ad N cap] 34) _ (lt_of_heap ka)).trans ka
    have kb := heap_alloc_new (w2.alloc (.cells #[.int .i64 k, .int .i64 0, .int .i64 0, .slice ad N cap] 34)) (.cells #[.int .i64 10, .int .i64 0, .int .i64 0, .slice ad N cap] 34)
    simp only [World.size_alloc] at kb
    replace ka := (hB4.block _ (lt_of_heap ka)).trans ka
    replace kb := (hB4.block _ (lt_of_heap kb)).trans kb
    have hk4 := HK3.out.below hB4
    replace hB4 := Below.then HB3.out hB4
    have a0 := (Lib.cell_of_heap ka 0).trans rfl
    have a1' := (Lib.cell_of_heap ka 1).trans rfl
    have a2' := (Lib.cell_of_heap ka 2).trans rfl
    have a3' := (Lib.cell_of_heap ka 3).trans rfl
    have KA := Lib.hid ka
    have KB := Lib.hid kb
    clear ka kb
    go_wp2_with fail
    refine (rtarget_fit k 0 0 (.slice ad N cap) ts _ hk4 HF.out).mono ?_
    rintro e w5 ⟨rfl, hB5⟩
    rw [← HA.out]
    dsimp only [tgtV]
    have kb := (hB5.block _ (lt_of_heap KB.out)).trans KB.out
    have hk5 := hk4.below hB5
    replace hB5 := Below.then hB4 hB5
    have d0 := (Lib.cell_of_heap kb 0).trans rfl
    have d1 := (Lib.cell_of_heap kb 1).trans rfl
    have d2 := (Lib.cell_of_heap kb 2).trans rfl
    have d3 := (Lib.cell_of_heap kb 3).trans rfl
    clear a0 a1' a2' a3' hk4 hB4
    have KB5 := Lib.hid kb
    clear kb KB
    go_wp2_with fail
    refine (target_fit 10 0 0 (.slice ad N cap) ts _ hk5 HF.out).mono ?_
    rintro e w6 ⟨rfl, hB6⟩
    rw [← HBt.out]
    dsimp only [tgtV]
    have kb := (hB6.block _ (lt_of_heap KB5.out)).trans KB5.out
    have hk6 := hk5.below hB6
    replace hB6 := Below.then hB5 hB6
    clear d0 d1 d2 d3 hk5 hB5 KB5
    have d0 := (Lib.cell_of_heap kb 0).trans rfl
    have d1 := (Lib.cell_of_heap kb 1).trans rfl
    have d2 := (Lib.cell_of_heap kb 2).trans rfl
    have d3 := (Lib.cell_of_heap kb 3).trans rfl
    clear kb
    go_wp2_with fail
    refine (rtarget_fit 10 0 0 (.slice ad N cap) ts _ hk6 HF.out).mono ?_
    rintro e w7 ⟨rfl, hB7⟩
    rw [← HBt.out]
    dsimp only [tgtV]
    replace hB7 := Below.then hB6 hB7
    clear d0 d1 d2 d3 hk6 hB6
    go_wp2_with fail
    go_ret
    exact ⟨rfl, hB7⟩
  · go_enter Tryd.func6, Tryd.ntmps6
    go_wp2_with fail
    refine (awake_any _ HG.out).mono ?_
    rintro e w1 ⟨rfl, hB1⟩
    go_wp2_with fail
    go_ret
    exact ⟨rfl, hB1⟩
end Go.Proofs.YtnkheejpmkflaaaDoor
