/- What is proved: the law BddSides answers true, whatever the names, the ops and the two numbers. -/
import Derived.Test.YthhcahojbgcihaaTh
namespace Go.Proofs.Ythhcahojbgcihaa
open Go.RowKit Bd

theorem bits_low {v s : Nat} (hs : s < 2 ^ v) : Bd.bits s = upd (Bd.bits s) v false := by
  funext j
  unfold upd
  split
  · rename_i e; subst e; exact Nat.testBit_lt_two_pow hs
  · rfl

theorem bits_high {v s : Nat} (hs : s < 2 ^ v) : Bd.bits (2 ^ v + s) = upd (Bd.bits s) v true := by
  funext j
  unfold upd Bd.bits
  split
  · rename_i e; subst e; rw [Nat.testBit_two_pow_add_eq, Nat.testBit_lt_two_pow hs]; rfl
  · rename_i e
    rcases Nat.lt_or_ge j v with h | h
    · exact Nat.testBit_two_pow_add_gt h s
    · have h1 : 2 ^ v + s < 2 ^ (v + 1) := by rw [Nat.pow_succ]; omega
      have h2 : 2 ^ (v + 1) ≤ 2 ^ j := Nat.pow_le_pow_right (by omega) (by omega)
      rw [Nat.testBit_lt_two_pow (by omega), Nat.testBit_lt_two_pow (by omega)]

theorem cntG_succ (g : (Nat → Bool) → Bool) (v : Nat) : cntG g (v + 1) = cntG (fun a => g (upd a v false)) v + cntG (fun a => g (upd a v true)) v := by
  unfold cntG
  rw [show 2 ^ (v + 1) = 2 ^ v + 2 ^ v by rw [Nat.pow_succ]; omega, List.range_add, List.countP_append, List.countP_map]
  congr 1
  · refine List.countP_congr fun s hs => ?_
    show g (Bd.bits s) = true ↔ g (upd (Bd.bits s) v false) = true
    rw [← bits_low (by simpa using hs)]
  · refine List.countP_congr fun s hs => ?_
    show g (Bd.bits (2 ^ v + s)) = true ↔ g (upd (Bd.bits s) v true) = true
    rw [bits_high (by simpa using hs)]

theorem upd_upd (a : Nat → Bool) (i : Nat) (u v : Bool) : upd (upd a i u) i v = upd a i v := by
  funext j
  unfold upd
  split <;> rfl

theorem cnt_sides (i : Nat) : ∀ (v : Nat) (g : (Nat → Bool) → Bool), i < v → cntG (fun a => g (upd a i true)) v + cntG (fun a => g (upd a i false)) v = 2 * cntG g v := by
  intro v
  induction v with
  | zero => intro g h; omega
  | succ v ih =>
    intro g h
    rw [cntG_succ g, cntG_succ (fun a => g (upd a i true)), cntG_succ (fun a => g (upd a i false))]
    by_cases e : i = v
    · subst e
      simp only [upd_upd]
      omega
    · have h1 := ih (fun a => g (upd a v false)) (by omega)
      have h2 := ih (fun a => g (upd a v true)) (by omega)
      have c : ∀ (b u : Bool), (fun a => g (upd (upd a v u) i b)) = fun a => g (upd (upd a i b) v u) := fun b u => by
        funext a
        rw [upd_comm a u b (Ne.symm e)]
      simp only [c]
      omega

theorem cntG_le (g : (Nat → Bool) → Bool) (v : Nat) : cntG g v ≤ 2 ^ v := by
  unfold cntG
  have := List.countP_le_length (l := List.range (2 ^ v)) (p := fun s => g (Bd.bits s))
  simpa using this

theorem upd_self (a : Nat → Bool) (i : Nat) : upd a i (a i) = a := by
  funext j
  unfold upd
  split
  · rename_i e; rw [e]
  · rfl

set_option maxHeartbeats 4000000 in
set_option maxRecDepth 100000 in
theorem sides_any (v : Int) (Ad : Option Addr) (k cap : Nat) (F : Nat → OpV) (w : World) (hO : OpsAt w Ad k F) (x y : Int) (hx : inI64 x) :
    Calls Try.prog 7 #[.int .i64 v, .slice Ad k cap, .int .i64 x, .int .i64 y] w fun e w' => e = .returned (.bool true) ∧ Below w.heap.size w w' := by
  have HO := Lib.hid hO
  clear hO
  go_enter Try.func7, Try.ntmps7
  go_wp2_with fail
  refine (awake_any w).mono ?_
  rintro e w1 ⟨rfl, hb1⟩
  go_wp2_with fail
  refine (built_any v Ad k cap F w1 (HO.out.below hb1)).mono ?_
  rintro e w2 (⟨hv, rfl, hb2⟩ | ⟨vars, q, p, m, i, rfl, hi, ⟨sv, lv, tv, ds, n, X, T, G, hD, hn, hds, hb2⟩, rfl⟩)
  · clear hv
    go_wp2_with fail
    go_ret
    exact ⟨rfl, hb1.trans (hb2.mono hb1.size)⟩
  by_cases hy : ¬ (0 ≤ y ∧ y < (vars : Int))
  · by_cases hneg : y < 0
    · go_wp2_with fail
      go_ret
      exact ⟨rfl, hb1.trans (hb2.mono hb1.size)⟩
    · have g1 : (vars : Int) ≤ y := by omega
      go_wp2_with fail
      go_ret
      exact ⟨rfl, hb1.trans (hb2.mono hb1.size)⟩
  · have hy' : 0 ≤ y ∧ y < (vars : Int) := Classical.byContradiction hy
    obtain ⟨j, rfl⟩ := Int.eq_ofNat_of_zero_le hy'.1
    have hj : j < vars := by omega
    have hj' : (j : Int) < (vars : Int) := by omega
    clear hy hy'
    obtain ⟨bl, cl, bt, ct, rfl, rfl, hbl, hbt⟩ := hD.forms
    have n2 := hD.two
    have hql := lt_of_get hD.blk
    have z2 := hD.c2
    have z0 := hD.c0
    have hX := pickF_lt x (n := n) (by omega)
    have zx := hD.lcell hX
    have hX' : ((pickF x n : Nat) : Int) < (n : Int) := by omega
    have hcl : n ≤ cl := by
      rcases hD.lrow.2 with ⟨e, _⟩ | ⟨_, _, _, e, _, _, hc, _⟩
      · cases e
      · injection e with _ _ e; omega
    have v8 := hD.ar.v8
    go_wp2_with fail
    go_quiet ((go_at_call 27; exact pick_quiet hx (by omega) (by omega) _ _))
    go_wp2_with fail
    have hD1 := hD.drewN nq
    have hb3 : Below w1.heap.size w1 (w2.drewN nq) := below_drewN hb2 _
    generalize w2.drewN nq = W1 at hD1 hb3 ⊢
    clear z2 zx z0 hD
    have hn := hD1.has _ hX
    generalize G (pickF x n) = g at hn
    generalize X (pickF x n) = n0 at hn ⊢
    -- v
    refine (varH hD1.ar j hj (by omega)).mono ?_
    rintro e W2 ⟨vv, ds2, sv2, hv2, K2, l2, rfl, hA2, F2⟩
    have hD2 := hD1.fr hA2 F2 K2
    have hb4 := hb3.trans (F2.base hD1.ar)
    have hn2 := K2 _ _ hn
    have z0 := hD2.c0
    go_wp2_with fail
    -- on
    refine (restrictH hD2.ar hn2 j true hj (by omega)).mono ?_
    rintro e W3 ⟨on, ds3, sv3, ho3, K3, l3, rfl, hA3, F3⟩
    have hD3 := hD2.fr hA3 F3 K3
    have hb5 := hb4.trans (F3.base hD2.ar)
    have hn3 := K3 _ _ hn2
    have hv3 := K3 _ _ hv2
    clear z0
    have z0 := hD3.c0
    go_wp2_with fail
    -- off
    refine (restrictH hD3.ar hn3 j false hj (by omega)).mono ?_
    rintro e W4 ⟨off, ds4, sv4, hf4, K4, l4, rfl, hA4, F4⟩
    have hD4 := hD3.fr hA4 F4 K4
    have hb6 := hb5.trans (F4.base hD3.ar)
    have hn4 := K4 _ _ hn3
    have hv4 := K4 _ _ hv3
    have ho4 := K4 _ _ ho3
    clear z0
    have z0 := hD4.c0
    go_wp2_with fail
    -- back
    refine (iteH hD4.ar hv4 ho4 hf4 (by omega)).mono ?_
    rintro e W5 ⟨back, ds5, sv5, hb5', K5, l5, rfl, hA5, F5⟩
    have hD5 := hD4.fr hA5 F5 K5
    have hb7 := hb6.trans (F5.base hD4.ar)
    have hn5 := K5 _ _ hn4
    have ho5 := K5 _ _ ho4
    have hf5 := K5 _ _ hf4
    obtain rfl : n0 = back := Has.one hA5.wf hn5 hb5' (fun a => by
      by_cases e : a j = true
      · rw [if_pos e]; conv => lhs; rw [← upd_self a j, e]
      · rw [if_neg e]; have e' : a j = false := by simpa using e
        conv => lhs; rw [← upd_self a j, e'])
    clear z0
    have z0 := hD5.c0
    go_wp2_with fail
    -- only
    refine (onlyH hD5.ar hn5).mono ?_
    rintro e W6 ⟨A, hAA, rfl, hb8⟩
    have hD6 := hD5.below hb8
    have hs8 := hb7.size
    clear z0
    have z0 := hD6.c0
    go_wp2_with fail
    -- a, b, c
    refine (countH hD6.ar ho5).mono ?_
    rintro e W7 ⟨rfl, hb9⟩
    have hD7 := hD6.below hb9
    clear z0
    have z0 := hD7.c0
    go_wp2_with fail
    refine (countH hD7.ar hf5).mono ?_
    rintro e W8 ⟨rfl, hb10⟩
    have hD8 := hD7.below hb10
    clear z0
    have z0 := hD8.c0
    go_wp2_with fail
    refine (countH hD8.ar hn5).mono ?_
    rintro e W9 ⟨rfl, hb11⟩
    have hD9 := hD8.below hb11
    clear z0
    have z0 := hD9.c0
    go_wp2_with fail
    -- again
    refine (restrictH hD9.ar ho5 j false hj (by omega)).mono ?_
    rintro e W10 ⟨again, ds10, sv10, hg10, K10, l10, rfl, hA10, F10⟩
    have ho10 := K10 _ _ ho5
    have hf10 := K10 _ _ hf5
    have hn10 := K10 _ _ hn5
    obtain rfl : on = again := Has.one hA10.wf ho10 hg10 (fun a => by rw [upd_upd])
    have hsum := cnt_sides j vars g hj
    have c1 := cntG_le (fun a => g (upd a j true)) vars
    have c2 := cntG_le (fun a => g (upd a j false)) vars
    have c3 := cntG_le g vars
    have hp8 := pow8 v8
    have hbit := bit_eq (k := j) hAA.1
    have hlast : Below w1.heap.size w1 W10 := by
      have t1 := hb7.trans (hb8.mono hb7.size)
      have t2 := t1.trans (hb9.mono t1.size)
      have t3 := t2.trans (hb10.mono t2.size)
      have t4 := t3.trans (hb11.mono t3.size)
      exact t4.trans (F10.base hD9.ar)
    generalize cntG (fun a => g (upd a j true)) vars = q1 at *
    generalize cntG (fun a => g (upd a j false)) vars = q2 at *
    generalize cntG g vars = q3 at *
    have e1 : IntKind.i64.wrap ((q1 : Int) + (q2 : Int)) = (q1 : Int) + (q2 : Int) := IntWalk.i64_in _ (by omega)
    have e2 : IntKind.i64.wrap (2 * (q3 : Int)) = 2 * (q3 : Int) := IntWalk.i64_in _ (by omega)
    have e3 : ((q1 : Int) + (q2 : Int) == 2 * (q3 : Int)) = true := beq_iff_eq.2 (by omega)
    have jk : (j : Int) ≤ 64 := by omega
    by_cases hon : on = off
    · have hz : Bd.bits A j = false := by
        have : ¬ hangs g j := by
          rintro ⟨a, ha⟩
          apply ha
          rw [← ho10.says a, ← hf10.says a, hon]
        rw [Bool.eq_false_iff]
        exact fun h => this ((hAA.2 j).1 h)
      have hall : ∀ a, g (upd a j true) = g a := by
        intro a
        by_cases e : a j = true
        · conv => rhs; rw [← upd_self a j, e]
        · have e' : a j = false := by simpa using e
          conv => rhs; rw [← upd_self a j, e']
          rw [← ho10.says a, ← hf10.says a, hon]
      obtain rfl : on = n0 := Has.one hA10.wf ho10 hn10 hall
      subst hon
      rw [hz] at hbit
      clear hz hsum
      go_wp2_with fail
      go_ret
      exact ⟨rfl, hb1.trans (hlast.mono hb1.size)⟩
    · have hz : Bd.bits A j = true := by
        refine (hAA.2 j).2 (Classical.byContradiction fun hno => hon (Has.one hA10.wf ho10 hf10 fun a => ?_))
        exact Classical.byContradiction fun h => hno ⟨a, h⟩
      have h1 : ((on : Int) != (off : Int)) = true := by rw [bne_iff_ne]; omega
      rw [hz] at hbit
      clear hz hsum hon
      go_wp2_with fail
      go_ret
      exact ⟨rfl, hb1.trans (hlast.mono hb1.size)⟩
end Go.Proofs.Ythhcahojbgcihaa
