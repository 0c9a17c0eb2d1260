/- What is proved: the document's Parse; CondPlays answers true. -/
import Derived.Test.YtjmbchemdcmegaaLawA
import Derived.Test.YtjmbchemdcmegaaRg
namespace Go.Proofs.Ytjmbchemdcmegaa
open Go.RowKit
open Ct Ct.T

set_option maxRecDepth 100000 in
set_option maxHeartbeats 4000000 in
theorem rparse_any (v : Value) (ks : List Int) (w : World) (hv : Lns w v ks) (hl : ks.length ≤ 100000) : Calls Try.prog 12 #[v] w (ParsePost w (Ct.parse ks)) := by
  have HW := Lib.hid (rwrong_any v ks w hv hl)
  have hok := parse_ok (ks := ks)
  have hbad := parse_bad (ks := ks)
  obtain ⟨r, hr⟩ : ∃ r, r = Ct.parse ks := ⟨_, rfl⟩
  rw [← hr] at HW hok hbad ⊢
  obtain ⟨t, i, e⟩ := r
  dsimp only at HW hok hbad
  have HV := Lib.hid hv
  clear hr hv
  by_cases p1 : e = 0
  · obtain ⟨t', hgo, ht'⟩ := hok p1
    simp only [Prod.mk.injEq] at ht'
    obtain ⟨rfl, rfl, -⟩ := ht'
    subst p1
    have HI := Lib.hid (fun (W : World) (hW : Lns W v ks) => ritems_all ks hl (tsize t + 1) t (by omega) 0 ks.length v W hW (Gparse hgo) (Nat.le_refl _) (fun h => by omega))
    clear hok hbad hgo
    go_enter Try.func12, Try.ntmps12
    go_wp2_with fail
    refine HW.out.mono ?_
    rintro ed w1 ⟨rfl, hB1⟩
    go_wp2_with fail
    refine (HI.out w1 (HV.out.below hB1)).mono ?_
    rintro ed w2 ⟨u, rfl, hT, hB2⟩
    have hT2 : Tr w2 u t := TS.keep hT fun g _ hlt => ⟨hlt, rfl⟩
    have HT := Lib.hid hT2
    have HB := Lib.hid (Below.then hB1 hB2)
    clear hT hT2 hB2
    go_wp2_with fail
    exact bodyPost_ret (v := .tuple #[u, .int .i64 0, .int .i64 0]) (by simp [results, Try.results12, go_sem]) rfl ⟨u, rfl, HT.out, HB.out⟩
  · obtain rfl := hbad p1
    have y1 : ((e : Int) == 0) = false := by simp; omega
    have y1' : ((e : Int) != 0) = true := by simp; omega
    clear hok hbad
    go_enter Try.func12, Try.ntmps12
    go_wp2_with fail
    refine HW.out.mono ?_
    rintro ed w1 ⟨rfl, hB1⟩
    go_wp2_with fail
    exact bodyPost_ret (v := .tuple #[.slice none 0 0, .int .i64 i, .int .i64 e]) (by simp [results, Try.results12, go_sem]) rfl ⟨_, rfl, Tr.nil _, hB1⟩

set_option maxRecDepth 100000 in
set_option maxHeartbeats 4000000 in
theorem plays_any (v0 : Value) (a : List Int) (w : World) (h0 : IntsA w v0 a) : Calls Try.prog 3 #[v0] w (TruePost w) := by
  obtain ⟨ad0, c0, rfl, -, hm0⟩ := h0.1.len
  unfold maxLen at hm0
  obtain ⟨na, hna⟩ : ∃ n, n = a.length := ⟨_, rfl⟩
  rw [← hna] at h0 ⊢
  have Hna := Lib.hid hna
  have H0 := Lib.hid h0
  clear hna h0
  go_enter Try.func3, Try.ntmps3
  go_wp2_with fail
  refine (awake_any w).mono ?_
  rintro e w1 ⟨rfl, hB1⟩
  replace H0 := Lib.hid (H0.out.below hB1)
  by_cases q1 : 500 < na
  · have z1 : (500 : Int) < na := by omega
    go_wp2_with fail
    go_ret
    exact ⟨rfl, hB1⟩
  · have z1 : ¬ ((500 : Int) < na) := by omega
    go_wp2_with fail
    refine (lines_any _ a _ H0.out.1 (by rw [← Hna.out]; omega)).mono ?_
    rintro e w2 ⟨x2, rfl, hL, hB2⟩
    have HC := Lib.hid (parse_any x2 _ w2 hL (by rw [← Hna.out]; omega))
    replace H0 := Lib.hid (H0.out.below hB2)
    replace hB2 := Below.then hB1 hB2
    clear hL hB1
    go_wp2_with fail
    refine HC.out.mono ?_
    rintro e w3 ⟨x3, rfl, hT3, hB3⟩
    replace H0 := Lib.hid (H0.out.below hB3)
    replace hB3 := Below.then hB2 hB3
    have HT3 := Lib.hid hT3
    clear hT3 HC hB2
    go_wp2_with fail
    refine (lines_any _ a _ H0.out.1 (by rw [← Hna.out]; omega)).mono ?_
    rintro e w4 ⟨x4, rfl, hL, hB4⟩
    have HC := Lib.hid (rparse_any x4 _ w4 hL (by rw [← Hna.out]; omega))
    replace HT3 := Lib.hid (HT3.out.below hB4)
    replace hB4 := Below.then hB3 hB4
    clear hL hB3 H0
    go_wp2_with fail
    refine HC.out.mono ?_
    rintro e w5 ⟨x5, rfl, hT5, hB5⟩
    replace HT3 := Lib.hid (HT3.out.below hB5)
    replace hB5 := Below.then hB4 hB5
    have HT5 := Lib.hid hT5
    clear hT5 HC hB4
    obtain ⟨ra, hra⟩ : ∃ r, r = Ct.parse a := ⟨_, rfl⟩
    rw [← hra] at HT3 HT5 ⊢
    obtain ⟨ta, ia, ea⟩ := ra
    dsimp only at HT3 HT5 ⊢
    clear hra
    go_wp2_with fail
    refine (rsame_any ta x3 x5 w5 HT3.out HT5.out).mono ?_
    rintro e w6 ⟨rfl, hB6⟩
    have HB6 := Lib.hid (Below.then hB5 hB6)
    clear hB6 hB5
    go_wp2_with fail
    go_ret
    exact ⟨rfl, HB6.out⟩
end Go.Proofs.Ytjmbchemdcmegaa
