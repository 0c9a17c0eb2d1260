/- What is proved: the law BddThought answers true, whatever the names, the ops and the three numbers. -/
import Derived.Test.YthhcahojbgcihaaBu1
namespace Go.Proofs.Ythhcahojbgcihaa
open Go.RowKit Bd

theorem OpsAt.below {w w' : World} {Ad : Option Addr} {k : Nat} {F : Nat → OpV} (h : OpsAt w Ad k F) (hb : Below w.heap.size w w') : OpsAt w' Ad k F := by
  intro i hi
  obtain ⟨ab, ao, e, hab, o0, o1, o2, o3, o4, o5, r⟩ := h i hi
  exact ⟨ab, ao, e, Nat.lt_of_lt_of_le hab hb.size, (hb.cell (p := ⟨ab, ao + i * 6, none⟩) hab).trans o0, (hb.cell (p := ⟨ab, ao + i * 6 + 1, none⟩) hab).trans o1, (hb.cell (p := ⟨ab, ao + i * 6 + 2, none⟩) hab).trans o2, (hb.cell (p := ⟨ab, ao + i * 6 + 3, none⟩) hab).trans o3, (hb.cell (p := ⟨ab, ao + i * 6 + 4, none⟩) hab).trans o4, (hb.cell (p := ⟨ab, ao + i * 6 + 5, none⟩) hab).trans o5, r⟩

set_option maxHeartbeats 4000000 in
set_option maxRecDepth 100000 in
theorem thought_any (v : Int) (Ad : Option Addr) (k cap : Nat) (F : Nat → OpV) (w : World) (hO : OpsAt w Ad k F) (x y z : Int) (hx : inI64 x) (hy : inI64 y) (hz : inI64 z) :
    Calls Try.prog 6 #[.int .i64 v, .slice Ad k cap, .int .i64 x, .int .i64 y, .int .i64 z] w fun e w' => e = .returned (.bool true) ∧ Below w.heap.size w w' := by
  have HO := Lib.hid hO
  clear hO
  go_enter Try.func6, Try.ntmps6
  go_wp2_with fail
  refine (awake_any w).mono ?_
  rintro e w1 ⟨rfl, hb1⟩
  go_wp2_with fail
  refine (built_any v Ad k cap F w1 (HO.out.below hb1)).mono ?_
  rintro e w2 (⟨hv, rfl, hb2⟩ | ⟨vars, q, p, m, i, rfl, hi, ⟨sv, lv, tv, ds, n, X, T, G, hD, hn, hds, hb2⟩, rfl⟩)
  · clear hv
    go_wp2_with fail
    go_ret
    exact ⟨rfl, hb1.trans (hb2.mono hb1.size)⟩
  · obtain ⟨bl, cl, bt, ct, rfl, rfl, hbl, hbt⟩ := hD.forms
    have n2 := hD.two
    have hql := lt_of_get hD.blk
    have z2 := hD.c2
    have hX := pickF_lt x (n := n) (by omega)
    have hY := pickF_lt y (n := n) (by omega)
    have hZ := pickF_lt z (n := n) (by omega)
    have zx := hD.lcell hX
    have hX' : ((pickF x n : Nat) : Int) < (n : Int) := by omega
    have hY' : ((pickF y n : Nat) : Int) < (n : Int) := by omega
    have hZ' : ((pickF z n : Nat) : Int) < (n : Int) := by omega
    have hcl : n ≤ cl := by
      rcases hD.lrow.2 with ⟨e, _⟩ | ⟨_, _, _, e, _, _, hc, _⟩
      · cases e
      · injection e with _ _ e; omega
    go_wp2_with fail
    go_quiet ((go_at_call 27; exact pick_quiet hx (by omega) (by omega) _ _))
    go_wp2_with fail
    have hD1 := hD.drewN nq
    have hb3 : Below w1.heap.size w1 (w2.drewN nq) := below_drewN hb2 _
    generalize w2.drewN nq = W1 at hD1 hb3 ⊢
    clear z2 zx
    have z2 := hD1.c2
    have zy := hD1.lcell hY
    go_quiet ((go_at_call 27; exact pick_quiet hy (by omega) (by omega) _ _))
    go_wp2_with fail
    have hD2 := hD1.drewN nq
    have hb4 : Below w1.heap.size w1 (W1.drewN nq) := below_drewN hb3 _
    generalize W1.drewN nq = W2 at hD2 hb4 ⊢
    clear z2 zy
    have z2 := hD2.c2
    have zz := hD2.lcell hZ
    have z0 := hD2.c0
    go_quiet ((go_at_call 27; exact pick_quiet hz (by omega) (by omega) _ _))
    go_wp2_with fail
    have hD3 := hD2.drewN nq
    have hb5 : Below w1.heap.size w1 (W2.drewN nq) := below_drewN hb4 _
    generalize W2.drewN nq = W3 at hD3 hb5 ⊢
    clear z2 zz z0 hD hD1 hD2
    have hn_0 := hD3.has _ hX
    have hm_0 := hD3.has _ hY
    have hc_0 := hD3.has _ hZ
    generalize G (pickF x n) = gn at hn_0
    generalize G (pickF y n) = gm at hm_0
    generalize G (pickF z n) = gc at hc_0
    generalize X (pickF x n) = n0 at hn_0 ⊢
    generalize X (pickF y n) = m0 at hm_0 ⊢
    generalize X (pickF z n) = c0 at hc_0 ⊢
    have z0 := hD3.c0
    refine (notH hD3.ar hn_0 (by omega)).mono ?_
    rintro e W4 ⟨no, ds4, sv4, hno_1, K4, l4, rfl, hA4, F4⟩
    have hD4 := hD3.fr hA4 F4 K4
    have hb6 := hb5.trans (F4.base hD3.ar)
    have hn_1 := K4 _ _ hn_0
    have hm_1 := K4 _ _ hm_0
    have hc_1 := K4 _ _ hc_0
    clear z0
    have z0 := hD4.c0
    go_wp2_with fail
    refine (notH hD4.ar hno_1 (by omega)).mono ?_
    rintro e W5 ⟨nn, ds5, sv5, hnn_2, K5, l5, rfl, hA5, F5⟩
    have hD5 := hD4.fr hA5 F5 K5
    have hb7 := hb6.trans (F5.base hD4.ar)
    have hn_2 := K5 _ _ hn_1
    have hm_2 := K5 _ _ hm_1
    have hc_2 := K5 _ _ hc_1
    have hno_2 := K5 _ _ hno_1
    clear z0
    have z0 := hD5.c0
    obtain rfl : n0 = nn := Has.one hA5.wf hn_2 hnn_2 (fun a => by cases gn a <;> rfl)
    go_wp2_with fail
    refine (notH hD5.ar hm_2 (by omega)).mono ?_
    rintro e W6 ⟨mo, ds6, sv6, hmo_3, K6, l6, rfl, hA6, F6⟩
    have hD6 := hD5.fr hA6 F6 K6
    have hb8 := hb7.trans (F6.base hD5.ar)
    have hn_3 := K6 _ _ hn_2
    have hm_3 := K6 _ _ hm_2
    have hc_3 := K6 _ _ hc_2
    have hno_3 := K6 _ _ hno_2
    clear z0
    have z0 := hD6.c0
    go_wp2_with fail
    refine (andH hD6.ar hn_3 hm_3 (by omega)).mono ?_
    rintro e W7 ⟨an, ds7, sv7, han_4, K7, l7, rfl, hA7, F7⟩
    have hD7 := hD6.fr hA7 F7 K7
    have hb9 := hb8.trans (F7.base hD6.ar)
    have hn_4 := K7 _ _ hn_3
    have hm_4 := K7 _ _ hm_3
    have hc_4 := K7 _ _ hc_3
    have hno_4 := K7 _ _ hno_3
    have hmo_4 := K7 _ _ hmo_3
    clear z0
    have z0 := hD7.c0
    go_wp2_with fail
    refine (orH hD7.ar hno_4 hmo_4 (by omega)).mono ?_
    rintro e W8 ⟨oo, ds8, sv8, hoo_5, K8, l8, rfl, hA8, F8⟩
    have hD8 := hD7.fr hA8 F8 K8
    have hb10 := hb9.trans (F8.base hD7.ar)
    have hn_5 := K8 _ _ hn_4
    have hm_5 := K8 _ _ hm_4
    have hc_5 := K8 _ _ hc_4
    have han_5 := K8 _ _ han_4
    clear z0
    have z0 := hD8.c0
    go_wp2_with fail
    refine (notH hD8.ar hoo_5 (by omega)).mono ?_
    rintro e W9 ⟨nor, ds9, sv9, hnor_6, K9, l9, rfl, hA9, F9⟩
    have hD9 := hD8.fr hA9 F9 K9
    have hb11 := hb10.trans (F9.base hD8.ar)
    have hn_6 := K9 _ _ hn_5
    have hm_6 := K9 _ _ hm_5
    have hc_6 := K9 _ _ hc_5
    have han_6 := K9 _ _ han_5
    clear z0
    have z0 := hD9.c0
    obtain rfl : an = nor := Has.one hA9.wf han_6 hnor_6 (fun a => by cases gn a <;> cases gm a <;> rfl)
    go_wp2_with fail
    refine (iteH hD9.ar hc_6 hn_6 hm_6 (by omega)).mono ?_
    rintro e W10 ⟨it, ds10, sv10, hit_7, K10, l10, rfl, hA10, F10⟩
    have hD10 := hD9.fr hA10 F10 K10
    have hb12 := hb11.trans (F10.base hD9.ar)
    have hn_7 := K10 _ _ hn_6
    have hm_7 := K10 _ _ hm_6
    have hc_7 := K10 _ _ hc_6
    clear z0
    have z0 := hD10.c0
    go_wp2_with fail
    refine (andH hD10.ar hc_7 hn_7 (by omega)).mono ?_
    rintro e W11 ⟨pp, ds11, sv11, hpp_8, K11, l11, rfl, hA11, F11⟩
    have hD11 := hD10.fr hA11 F11 K11
    have hb13 := hb12.trans (F11.base hD10.ar)
    have hn_8 := K11 _ _ hn_7
    have hm_8 := K11 _ _ hm_7
    have hc_8 := K11 _ _ hc_7
    have hit_8 := K11 _ _ hit_7
    clear z0
    have z0 := hD11.c0
    go_wp2_with fail
    refine (notH hD11.ar hc_8 (by omega)).mono ?_
    rintro e W12 ⟨co, ds12, sv12, hco_9, K12, l12, rfl, hA12, F12⟩
    have hD12 := hD11.fr hA12 F12 K12
    have hb14 := hb13.trans (F12.base hD11.ar)
    have hn_9 := K12 _ _ hn_8
    have hm_9 := K12 _ _ hm_8
    have hit_9 := K12 _ _ hit_8
    have hpp_9 := K12 _ _ hpp_8
    clear z0
    have z0 := hD12.c0
    go_wp2_with fail
    refine (andH hD12.ar hco_9 hm_9 (by omega)).mono ?_
    rintro e W13 ⟨qq, ds13, sv13, hqq_10, K13, l13, rfl, hA13, F13⟩
    have hD13 := hD12.fr hA13 F13 K13
    have hb15 := hb14.trans (F13.base hD12.ar)
    have hn_10 := K13 _ _ hn_9
    have hm_10 := K13 _ _ hm_9
    have hit_10 := K13 _ _ hit_9
    have hpp_10 := K13 _ _ hpp_9
    clear z0
    have z0 := hD13.c0
    go_wp2_with fail
    refine (orH hD13.ar hpp_10 hqq_10 (by omega)).mono ?_
    rintro e W14 ⟨pq, ds14, sv14, hpq_11, K14, l14, rfl, hA14, F14⟩
    have hD14 := hD13.fr hA14 F14 K14
    have hb16 := hb15.trans (F14.base hD13.ar)
    have hn_11 := K14 _ _ hn_10
    have hm_11 := K14 _ _ hm_10
    have hit_11 := K14 _ _ hit_10
    clear z0
    have z0 := hD14.c0
    obtain rfl : it = pq := Has.one hA14.wf hit_11 hpq_11 (fun a => by cases gc a <;> cases gn a <;> cases gm a <;> rfl)
    go_wp2_with fail
    refine (xorH hD14.ar hn_11 hm_11 (by omega)).mono ?_
    rintro e W15 ⟨xo, ds15, sv15, hxo_12, K15, l15, rfl, hA15, F15⟩
    have hD15 := hD14.fr hA15 F15 K15
    have hb17 := hb16.trans (F15.base hD14.ar)
    have hn_12 := K15 _ _ hn_11
    have hm_12 := K15 _ _ hm_11
    clear z0
    have z0 := hD15.c0
    go_wp2_with fail
    refine (xorH hD15.ar hxo_12 hm_12 (by omega)).mono ?_
    rintro e W16 ⟨ba, ds16, sv16, hba_13, K16, l16, rfl, hA16, F16⟩
    have hD16 := hD15.fr hA16 F16 K16
    have hb18 := hb17.trans (F16.base hD15.ar)
    have hn_13 := K16 _ _ hn_12
    clear z0
    have z0 := hD16.c0
    obtain rfl : n0 = ba := Has.one hA16.wf hn_13 hba_13 (fun a => by cases gn a <;> cases gm a <;> rfl)
    go_wp2_with fail
    go_ret
    exact ⟨rfl, hb1.trans (hb18.mono hb1.size)⟩
end Go.Proofs.Ythhcahojbgcihaa
