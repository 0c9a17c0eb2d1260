/- What is proved: what the document's own Same, line and Lines tell of tokens and lines. -/
import Derived.Test.YtnkheejpmkflaaaDoorD4
import Derived.Test.YtnkheejpmkflaaaDoorR5
import Derived.Laws.StructEq
namespace Go.Proofs.YtnkheejpmkflaaaDoor
open Go.RowKit Go.Shelf

theorem stoodTok : Tryd.prog.stoodInHeld 40 = false := by kernel_rfl
theorem partT0 (a b c d e f : Value) (w : World) : (part 3 #[a, b, c, d, e, f] 0).run Tryd.prog w = .ok a w := by kernel_rfl
theorem partT1 (a b c d e f : Value) (w : World) : (part 9 #[a, b, c, d, e, f] 1).run Tryd.prog w = .ok b w := by kernel_rfl
theorem partT2 (a b c d e f : Value) (w : World) : (part 3 #[a, b, c, d, e, f] 2).run Tryd.prog w = .ok c w := by kernel_rfl
theorem partT3 (a b c d e f : Value) (w : World) : (part 3 #[a, b, c, d, e, f] 3).run Tryd.prog w = .ok d w := by kernel_rfl
theorem partT4 (a b c d e f : Value) (w : World) : (part 3 #[a, b, c, d, e, f] 4).run Tryd.prog w = .ok e w := by kernel_rfl
theorem partT5 (a b c d e f : Value) (w : World) : (part 4 #[a, b, c, d, e, f] 5).run Tryd.prog w = .ok f w := by kernel_rfl
theorem eqInt (d : Nat) (a b : Int) (w : World) : (Op.equalIn (d + 1) 3 (.int .i64 a) (.int .i64 b)).run Tryd.prog w = .ok (a == b) w := by kernel_rfl
theorem eqStr (d : Nat) (a b : ByteArray) (w : World) : (Op.equalIn (d + 1) 9 (.string a) (.string b)).run Tryd.prog w = .ok (a == b) w := by kernel_rfl
theorem eqBool (d : Nat) (a b : Bool) (w : World) : (Op.equalIn (d + 1) 4 (.bool a) (.bool b)).run Tryd.prog w = .ok (a == b) w := by kernel_rfl

theorem run_sameTok (a : Int) (b : ByteArray) (c d e : Int) (f : Bool) (w : World) :
    (Op.equalIn 10000 40 (.agg #[.int .i64 a, .string b, .int .i64 c, .int .i64 d, .int .i64 e, .bool f]) (.agg #[.int .i64 a, .string b, .int .i64 c, .int .i64 d, .int .i64 e, .bool f])).run Tryd.prog w = .ok true w := by
  show (Op.equalIn (9998 + 1 + 1) 40 _ _).run Tryd.prog w = _
  rw [run_equalIn_struct w (9998 + 1) 40 _ _ (by simp [Program.fieldsOf, Tryd.underlying40]) stoodTok]
  simp only [Program.fieldsOf, Tryd.underlying40, Op.eqFields, Sem.run_bind, partT0, partT1, partT2, partT3, partT4, partT5, eqInt, eqStr, eqBool, Result.andThen_ok, Sem.run_ite, Sem.run_pure]
  simp [beq_toListBytes]

set_option maxRecDepth 100000 in
set_option maxHeartbeats 4000000 in
theorem same_any (v u : Value) (ts : List K) (w : World) (hv : Ks w v ts) (hu : Ks w u ts) (hl : ts.length * 56 ≤ 140737488355328) :
    Calls Tryd.prog 20 #[v, u] w fun e w' => e = .returned (.bool true) ∧ Below w.heap.size w w' := by
  obtain ⟨ad, cap, rfl, -⟩ := id hv
  obtain ⟨ad', cap', rfl, -⟩ := id hu
  rcases Nat.eq_zero_or_pos ts.length with h0 | hpos
  · obtain rfl : ts = [] := List.length_eq_zero_iff.1 h0
    clear hv hu
    go_enter Tryd.func20, Tryd.ntmps20
    go_wp2_with fail
    go_loop [5] (fun i => i = .int .i64 0) (fun _ => 0)
    case atStart => exact rfl
    case round =>
      obtain rfl := hrel
      go_wp2_with fail
      go_ret
      exact ⟨rfl, Below.refl _ _⟩
  · obtain ⟨g, o, rfl, -, hcap, hmax, hg, hc⟩ := hv.cells hpos
    obtain ⟨g', o', rfl, -, hcap', hmax', hg', hc'⟩ := hu.cells hpos
    unfold maxLen at hmax hmax'
    obtain ⟨n, hn⟩ : ∃ n, n = ts.length := ⟨_, rfl⟩
    rw [← hn] at hl hcap hpos hcap'
    rw [← hn]
    have Hn := Lib.hid hn
    have HC := Lib.hid hc
    have HC' := Lib.hid hc'
    clear hn hc hc' hv hu
    go_enter Tryd.func20, Tryd.ntmps20
    go_wp2_with fail
    go_loopw [5] (fun i wr => ∃ k : Nat, i = .int .i64 k ∧ k ≤ n ∧ Below w.heap.size w wr) (fun i _ => n - (intOf i).toNat)
    case atStart => exact ⟨0, rfl, Nat.zero_le _, Below.refl _ _⟩
    case round =>
      obtain ⟨k, rfl, hk, hB⟩ := hrel
      have hsB := hB.size
      by_cases hlt : k < n
      · obtain ⟨t, ht⟩ : ∃ t, ts[k]? = some t := ⟨_, List.getElem?_eq_getElem (by rw [← Hn.out]; exact hlt)⟩
        obtain ⟨d0, d1, d2, d3, d4, d5⟩ := (HC.out k t ht).below hB hg
        obtain ⟨x0, x1, x2, x3, x4, x5⟩ := (HC'.out k t ht).below hB hg'
        obtain ⟨kd, tx, f, fr, en, bl⟩ := t
        dsimp only at d0 d1 d2 d3 d4 d5 x0 x1 x2 x3 x4 x5
        have hq : ∀ W, (Op.equalIn 10000 40 (.agg #[.int .i64 kd, .string tx, .int .i64 f, .int .i64 fr, .int .i64 en, .bool bl]) (.agg #[.int .i64 kd, .string tx, .int .i64 f, .int .i64 fr, .int .i64 en, .bool bl])).run Tryd.prog W = .ok true W := fun W => run_sameTok _ _ _ _ _ _ W
        have z1 : (0 : Int) ≤ k := by omega
        have z2 : (k : Int) < n := by omega
        clear ht
        go_wp2_with fail
        go_quiet (fail)
        go_wp2_with fail
        go_roundw
        case rel => exact ⟨k + 1, by go_num, by omega, below_drewN hB _⟩
        case measure => simp [intOf]; omega
      · go_wp2_with fail
        go_ret
        exact ⟨rfl, hB⟩


set_option maxRecDepth 100000 in
set_option maxHeartbeats 8000000 in
theorem same4_any (v u : Value) (ls : List Ln) (w : World) (hv : Lns w v ls) (hu : Lns w u ls) (hl : ls.length * 48 ≤ 140737488355328) (hk : ∀ x ∈ ls, x.toks.length * 56 ≤ 140737488355328) :
    Calls Tryd.prog 12 #[v, u] w fun e w' => e = .returned (.bool true) ∧ Below w.heap.size w w' := by
  obtain ⟨ad, cap, rfl, -⟩ := id hv
  obtain ⟨ad', cap', rfl, -⟩ := id hu
  rcases Nat.eq_zero_or_pos ls.length with h0 | hpos
  · obtain rfl : ls = [] := List.length_eq_zero_iff.1 h0
    clear hv hu
    go_enter Tryd.func12, Tryd.ntmps12
    go_wp2_with fail
    go_loop [5] (fun i => i = .int .i64 0) (fun _ => 0)
    case atStart => exact rfl
    case round =>
      obtain rfl := hrel
      go_wp2_with fail
      go_ret
      exact ⟨rfl, Below.refl _ _⟩
  · obtain ⟨g, o, rfl, -, hcap, hmax, hg, hc⟩ := hv.cells hpos
    obtain ⟨g', o', rfl, -, hcap', hmax', hg', hc'⟩ := hu.cells hpos
    unfold maxLen at hmax hmax'
    obtain ⟨n, hn⟩ : ∃ n, n = ls.length := ⟨_, rfl⟩
    rw [← hn] at hl hcap hpos hcap'
    rw [← hn]
    have Hn := Lib.hid hn
    have HC := Lib.hid hc
    have HC' := Lib.hid hc'
    have HK := Lib.hid hk
    clear hn hc hc' hv hu hk
    go_enter Tryd.func12, Tryd.ntmps12
    go_wp2_with fail
    go_loopw [5] (fun i wr => ∃ k : Nat, i = .int .i64 k ∧ k ≤ n ∧ Below w.heap.size w wr) (fun i _ => n - (intOf i).toNat)
    case atStart => exact ⟨0, rfl, Nat.zero_le _, Below.refl _ _⟩
    case round =>
      obtain ⟨k, rfl, hk, hB⟩ := hrel
      have hsB := hB.size
      by_cases hlt : k < n
      · obtain ⟨x, hx⟩ : ∃ x, ls[k]? = some x := ⟨_, List.getElem?_eq_getElem (by rw [← Hn.out]; exact hlt)⟩
        obtain ⟨v1, d0, d1, d2, d3, k1⟩ := (HC.out k x hx).below hB
        obtain ⟨u1, y0, y1, y2, y3, k2⟩ := (HC'.out k x hx).below hB
        have hkx := HK.out x (List.mem_of_getElem? hx)
        obtain ⟨xk, xf, xn, xt⟩ := x
        dsimp only at d0 d1 d2 k1 y0 y1 y2 k2 hkx
        have z1 : (0 : Int) ≤ k := by omega
        have z2 : (k : Int) < n := by omega
        have K1 := Lib.hid (k1.below ((Below.refl _ wr).drew))
        have K2 := Lib.hid (k2.below ((Below.refl _ wr).drew))
        have HX := Lib.hid hkx
        have hgr : g < wr.drew.heap.size := lt_of_cell d0
        have hgr' : g' < wr.drew.heap.size := lt_of_cell y0
        have hBd : Below w.heap.size w wr.drew := hB.drew
        clear hx k1 k2 hkx
        go_wp2_with fail
        go_region_held3 (fun w' => w'.cell? ⟨g, o + k * 4 + 3, none⟩ = some v1 ∧ w'.cell? ⟨g', o' + k * 4 + 3, none⟩ = some u1) (go_keep)
          ((go_at_call 20; refine (same_any v1 u1 xt _ K1.out K2.out HX.out).mono ?_; rintro e w1 ⟨rfl, hB1⟩; have s1 := (hB1.cell (p := ⟨g, o + k * 4 + 3, none⟩) hgr).trans d3; have s2 := (hB1.cell (p := ⟨g', o' + k * 4 + 3, none⟩) hgr').trans y3))
        have hB1' := Below.then hBd hB1
        have r0 := (hB1.cell (p := ⟨g, o + k * 4, none⟩) hgr).trans d0
        have r1 := (hB1.cell (p := ⟨g, o + k * 4 + 1, none⟩) hgr).trans d1
        have r2 := (hB1.cell (p := ⟨g, o + k * 4 + 2, none⟩) hgr).trans d2
        have q0 := (hB1.cell (p := ⟨g', o' + k * 4, none⟩) hgr').trans y0
        have q1 := (hB1.cell (p := ⟨g', o' + k * 4 + 1, none⟩) hgr').trans y1
        have q2 := (hB1.cell (p := ⟨g', o' + k * 4 + 2, none⟩) hgr').trans y2
        have HB1 := Lib.hid hB1'
        clear d0 d1 d2 d3 y0 y1 y2 y3 hB1 hB1' hB hBd hgr hgr'
        go_wp2_with fail
        go_quiet (fail)
        go_wp2_with fail
        go_roundw
        case rel => exact ⟨k + 1, by go_num, by omega, below_drewN HB1.out _⟩
        case measure => simp [intOf]; omega
      · go_wp2_with fail
        go_ret
        exact ⟨rfl, hB⟩
end Go.Proofs.YtnkheejpmkflaaaDoor
