/- What is proved: the law BddPlays answers true, whatever the names and the ops. -/
import Derived.Test.YthhcahojbgcihaaTe0
namespace Go.Proofs.Ythhcahojbgcihaa
open Go.RowKit Bd

set_option maxHeartbeats 8000000 in
set_option maxRecDepth 100000 in
theorem plays_any (v : Int) (Ad : Option Addr) (k cap : Nat) (F : Nat → OpV) (w : World) (hO : OpsAt w Ad k F) :
    Calls Try.prog 3 #[.int .i64 v, .slice Ad k cap] w fun e w' => e = .returned (.bool true) ∧ Below w.heap.size w w' := by
  have HO := Lib.hid hO
  clear hO
  go_enter Try.func3, Try.ntmps3
  go_wp2_with fail
  refine (awake_any w).mono ?_
  rintro e w1 ⟨rfl, hb1⟩
  go_wp2_with fail
  refine (built_any v Ad k cap F w1 (HO.out.below hb1)).mono ?_
  rintro e w2 (⟨hv, rfl, hb2⟩ | ⟨vars, q, p, m, i, rfl, hi, ⟨sv, lv, tv, ds, n, X, T, G, hD, hn, hds, hb2⟩, rfl⟩)
  · by_cases hneg : v < 0
    · clear hv
      go_wp2_with fail
      go_ret
      exact ⟨rfl, hb1.trans (hb2.mono hb1.size)⟩
    · have h8 : (8 : Int) < v := by omega
      clear hv
      go_wp2_with fail
      go_ret
      exact ⟨rfl, hb1.trans (hb2.mono hb1.size)⟩
  obtain ⟨bl, cl, bt, ct, rfl, rfl, hbl, hbt⟩ := hD.forms
  have n2 := hD.two
  have v8 := hD.ar.v8
  have hp8 := pow8 v8
  have hp0 := Nat.two_pow_pos vars
  have hql := lt_of_get hD.blk
  have hcl : n ≤ cl := by
    rcases hD.lrow.2 with ⟨e, _⟩ | ⟨_, _, _, e, _, _, hc, _⟩
    · cases e
    · injection e with _ _ e; omega
  have hct : n ≤ ct := by
    rcases hD.trow.2 with ⟨e, _⟩ | ⟨_, _, _, e, _, _, hc, _⟩
    · cases e
    · injection e with _ _ e; omega
  have k4 : (vars : Int) ≤ 64 := by omega
  have hpe : ((2 ^ vars : Nat) : Int) = 2 ^ vars := by simp
  have k6 : IntKind.i64.wrap ((2 : Int) ^ vars) = 2 ^ vars := by
    rw [← hpe]
    exact wrapped _ (by omega)
  have HP := Lib.hid hpe
  clear hpe
  have HD := Lib.hid hD
  clear hD
  go_wp2_with fail
  go_loopw [8, 9, 10, 11, 12, 13] (fun i' _ _ _ _ _ wr => ∃ j : Nat, j ≤ n ∧ i' = .int .i64 (j : Int) ∧ Below w2.heap.size w2 wr) (fun i' _ _ _ _ _ _ => n - (intOf i').toNat)
  case atStart => exact ⟨0, Nat.zero_le _, rfl, Below.refl _ _⟩
  case round =>
    obtain ⟨j, hj, rfl, hbr⟩ := hrel
    have hDr := HD.out.below hbr
    have z2 := hDr.c2
    by_cases hlt : j < n
    · have hlt' : (j : Int) < (n : Int) := by omega
      go_wp2_with fail
      clear z2
      go_loopw [9, 10, 11] (fun s' _ _ wq => ∃ s : Nat, s ≤ 2 ^ vars ∧ s' = .int .i64 (s : Int) ∧ Below w2.heap.size w2 wq) (fun s' _ _ _ => 2 ^ vars - (intOf s').toNat)
      case atStart => exact ⟨0, Nat.zero_le _, rfl, hbr⟩
      case round =>
        obtain ⟨s, hs, rfl, hbq⟩ := hrel
        have hDq := HD.out.below hbq
        by_cases hsl : s < 2 ^ vars
        · have hsl' : decide ((s : Int) < 2 ^ vars) = true := by
            rw [← HP.out]; simp only [decide_eq_true_iff]; exact Int.ofNat_lt.2 hsl
          have hHas := hDq.has j hlt
          have hTab := hDq.tab j hlt
          have z0 := hDq.c0
          have z2 := hDq.c2
          have zl := hDq.lcell hlt
          go_wp2_with fail
          go_region_held3 (fun w' => w'.cell? ⟨q, 0, none⟩ = some (.pointer (some ⟨p, 0, none⟩)) ∧ w'.cell? ⟨q, 2, none⟩ = some (.slice (some ⟨bl, 0, none⟩) n cl) ∧ w'.cell? ⟨bl, j, none⟩ = some (.int .i64 (X j : Int))) (first | exact ⟨z0, z2, zl⟩ | exact ⟨hD3.c0, hD3.c2, hD3.lcell hlt⟩)
            (first
              | (go_at_call 11; (with_reducible refine (holdsH hDq.drew.ar hHas s hsl).mono ?_); rintro e W3 ⟨rfl, hb3⟩; have hD3 := hDq.drew.below hb3))
          clear z0 z2 zl
          have z3 := hD3.c3
          have zt := hD3.tcell hlt
          obtain ⟨tb, tc, hT, ltb, mtc, fc⟩ := (hD3.tab j hlt).form hp0
          have zc := fc s hsl
          have hslN : (s : Int) < ((2 ^ vars : Nat) : Int) := Int.ofNat_lt.2 hsl
          rw [hT] at zt
          clear hT fc
          generalize G j (Bd.bits s) = z at zc ⊢
          have hbT : Below w2.heap.size w2 W3 := hbq.drew.trans (hb3.mono hbq.size)
          cases z
          all_goals
            go_wp2_with fail
            go_roundw
            case rel => exact ⟨s + 1, hsl, by go_num, hbT⟩
            case measure => simp only [intOf]; omega
        · have hsl' : decide ((s : Int) < 2 ^ vars) = false := by
            rw [← HP.out]; simp only [decide_eq_false_iff_not]; exact fun h => hsl (Int.ofNat_lt.1 h)
          go_wp2_with fail
          go_loopw [12, 13] (fun k' _ wp => ∃ kk : Nat, kk ≤ j ∧ k' = .int .i64 (kk : Int) ∧ Below w2.heap.size w2 wp) (fun k' _ _ => j - (intOf k').toNat)
          case atStart => exact ⟨0, Nat.zero_le _, rfl, hbq⟩
          case round =>
            obtain ⟨kk, hkk, rfl, hbp⟩ := hrel
            have hDp := HD.out.below hbp
            by_cases hkl : kk < j
            · have hkl' : (kk : Int) < (j : Int) := by omega
              have hkn : kk < n := by omega
              have hkn' : (kk : Int) < (n : Int) := by omega
              have z3 := hDp.c3
              have zt := hDp.tcell hlt
              have zk := hDp.tcell hkn
              have hag := one_agrees hDp.ar.wf (hDp.has j hlt) (hDp.has kk hkn)
              have HAG := Lib.hid hag
              clear hag
              go_wp2_with fail
              go_region_held3 (fun w' => w'.cell? ⟨q, 3, none⟩ = some (.slice (some ⟨bt, 0, none⟩) n ct) ∧ w'.cell? ⟨bt, j, none⟩ = some (T j) ∧ w'.cell? ⟨bt, kk, none⟩ = some (T kk)) (first | exact ⟨z3, zt, zk⟩ | exact ⟨hD4.c3, hD4.tcell hlt, hD4.tcell hkn⟩)
                (first
                  | (go_at_call 12; (with_reducible refine (equalT (2 ^ vars) hp0 hp8 _ (hDp.drew.tab j hlt) (hDp.drew.tab kk hkn)).mono ?_); rintro e W4 ⟨b, hbb, rfl, hb4⟩; have hD4 := hDp.drew.below hb4))
              clear z3 zt zk
              have z2 := hD4.c2
              have zj := hD4.lcell hlt
              have zk := hD4.lcell hkn
              have hbT : Below w2.heap.size w2 W4 := hbp.drew.trans (hb4.mono hbp.size)
              by_cases hx : X j = X kk
              · have hbt' : b = true := hbb.2 (HAG.out.2 hx)
                subst hbt'
                rw [hx] at zj
                clear hx hbb
                go_wp2_with fail
                go_quiet (fail)
                go_wp2_with fail
                go_roundw
                case rel => exact ⟨kk + 1, by omega, by go_num, below_drewN hbT _⟩
                case measure => simp only [intOf]; omega
              · have hbf : b = false := by
                  rw [Bool.eq_false_iff]
                  exact fun h => hx (HAG.out.1 (hbb.1 h))
                have hne : ((X j : Int) == (X kk : Int)) = false := beq_eq_false_iff_ne.2 (by omega)
                subst hbf
                clear hx hbb
                go_wp2_with fail
                go_quiet (fail)
                go_wp2_with fail
                go_roundw
                case rel => exact ⟨kk + 1, by omega, by go_num, below_drewN hbT _⟩
                case measure => simp only [intOf]; omega
            · have hkl' : ¬ (kk : Int) < (j : Int) := by omega
              go_wp2_with fail
              go_roundw
              case rel => exact ⟨j + 1, by omega, by go_num, hbp⟩
              case measure => simp only [intOf]; omega
    · go_wp2_with fail
      go_ret
      exact ⟨rfl, hb1.trans ((hb2.trans (hbr.mono hb2.size)).mono hb1.size)⟩
end Go.Proofs.Ythhcahojbgcihaa
