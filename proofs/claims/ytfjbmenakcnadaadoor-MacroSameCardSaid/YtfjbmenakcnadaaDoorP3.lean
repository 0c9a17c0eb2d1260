/- What is proved: what the document's own Same and Alike tell of tokens. -/
import Derived.Test.YtfjbmenakcnadaaDoorP1
namespace Go.Proofs.YtfjbmenakcnadaaDoor
open Go.RowKit Go.Shelf
open Lx (T)

theorem stoodTok : Tryd.prog.stoodInHeld 39 = false := by kernel_rfl
theorem partT0 (a b c d e f : Value) (w : World) : (part 3 #[a, b, c, d, e, f] 0).run Tryd.prog w = .ok a w := by kernel_rfl
theorem partT1 (a b c d e f : Value) (w : World) : (part 9 #[a, b, c, d, e, f] 1).run Tryd.prog w = .ok b w := by kernel_rfl
theorem partT2 (a b c d e f : Value) (w : World) : (part 3 #[a, b, c, d, e, f] 2).run Tryd.prog w = .ok c w := by kernel_rfl
theorem partT3 (a b c d e f : Value) (w : World) : (part 3 #[a, b, c, d, e, f] 3).run Tryd.prog w = .ok d w := by kernel_rfl
theorem partT4 (a b c d e f : Value) (w : World) : (part 3 #[a, b, c, d, e, f] 4).run Tryd.prog w = .ok e w := by kernel_rfl
theorem partT5 (a b c d e f : Value) (w : World) : (part 4 #[a, b, c, d, e, f] 5).run Tryd.prog w = .ok f w := by kernel_rfl
theorem eqInt (d : Nat) (a b : Int) (w : World) : (Op.equalIn (d + 1) 3 (.int .i64 a) (.int .i64 b)).run Tryd.prog w = .ok (a == b) w := by kernel_rfl
theorem eqStr (d : Nat) (a b : ByteArray) (w : World) : (Op.equalIn (d + 1) 9 (.string a) (.string b)).run Tryd.prog w = .ok (a == b) w := by kernel_rfl
theorem eqBool (d : Nat) (a b : Bool) (w : World) : (Op.equalIn (d + 1) 4 (.bool a) (.bool b)).run Tryd.prog w = .ok (a == b) w := by kernel_rfl

theorem run_sameTok (a : Int) (b : ByteArray) (c d e : Int) (f : Bool) (w : World) :
    (Op.equalIn 10000 39 (.agg #[.int .i64 a, .string b, .int .i64 c, .int .i64 d, .int .i64 e, .bool f]) (.agg #[.int .i64 a, .string b, .int .i64 c, .int .i64 d, .int .i64 e, .bool f])).run Tryd.prog w = .ok true w := by
  show (Op.equalIn (9998 + 1 + 1) 39 _ _).run Tryd.prog w = _
  rw [run_equalIn_struct w (9998 + 1) 39 _ _ (by simp [Program.fieldsOf, Tryd.underlying39]) stoodTok]
  simp only [Program.fieldsOf, Tryd.underlying39, Op.eqFields, Sem.run_bind, partT0, partT1, partT2, partT3, partT4, partT5, eqInt, eqStr, eqBool, Result.andThen_ok, Sem.run_ite, Sem.run_pure]
  simp [beq_toListBytes]

set_option maxRecDepth 100000 in
set_option maxHeartbeats 4000000 in
theorem same_any (v u : Value) (f : Int) (ts : List T) (w : World) (hv : Toks w v f ts) (hu : Toks w u f ts) (hl : ts.length ≤ 1000000000) :
    Calls Tryd.prog 30 #[v, u] w fun e w' => e = .returned (.bool true) ∧ Below w.heap.size w w' := by
  obtain ⟨ad, cap, rfl, -⟩ := id hv
  obtain ⟨ad', cap', rfl, -⟩ := id hu
  rcases Nat.eq_zero_or_pos ts.length with h0 | hpos
  · obtain rfl : ts = [] := List.length_eq_zero_iff.1 h0
    clear hv hu
    go_enter Tryd.func30, Tryd.ntmps30
    go_wp2_with fail
    go_loop [5] (fun i => i = .int .i64 0) (fun _ => 0)
    case atStart => exact rfl
    case round =>
      obtain rfl := hrel
      go_wp2_with fail
      go_ret
      exact ⟨rfl, Below.refl _ _⟩
  · obtain ⟨g, o, rfl, -, hcap, hmax, hg, hc⟩ := hv.cells hpos
    obtain ⟨g', o', rfl, -, hcap', hmax', hg', hc'⟩ := hu.cells hpos
    unfold maxLen at hmax hmax'
    obtain ⟨n, hn⟩ : ∃ n, n = ts.length := ⟨_, rfl⟩
    rw [← hn] at hl hcap hpos hcap'
    rw [← hn]
    have Hn := Lib.hid hn
    have HC := Lib.hid hc
    have HC' := Lib.hid hc'
    clear hn hc hc' hv hu
    go_enter Tryd.func30, Tryd.ntmps30
    go_wp2_with fail
    go_loopw [5] (fun i wr => ∃ k : Nat, i = .int .i64 k ∧ k ≤ n ∧ Below w.heap.size w wr) (fun i _ => n - (intOf i).toNat)
    case atStart => exact ⟨0, rfl, Nat.zero_le _, Below.refl _ _⟩
    case round =>
      obtain ⟨k, rfl, hk, hB⟩ := hrel
      have hsB := hB.size
      by_cases hlt : k < n
      · obtain ⟨t, ht⟩ : ∃ t, ts[k]? = some t := ⟨_, List.getElem?_eq_getElem (by rw [← Hn.out]; exact hlt)⟩
        obtain ⟨d0, d1, d2, d3, d4, d5⟩ := (HC.out k t ht).below hB hg
        obtain ⟨x0, x1, x2, x3, x4, x5⟩ := (HC'.out k t ht).below hB hg'
        obtain ⟨tx, htx⟩ : ∃ tx : ByteArray, tx = ⟨t.text.toArray⟩ := ⟨_, rfl⟩
        rw [← htx] at d1 x1
        have hq : ∀ W, (Op.equalIn 10000 39 (.agg #[.int .i64 t.kind, .string tx, .int .i64 f, .int .i64 t.fr, .int .i64 t.to, .bool t.bl]) (.agg #[.int .i64 t.kind, .string tx, .int .i64 f, .int .i64 t.fr, .int .i64 t.to, .bool t.bl])).run Tryd.prog W = .ok true W := fun W => run_sameTok _ _ _ _ _ _ W
        have z1 : (0 : Int) ≤ k := by omega
        have z2 : (k : Int) < n := by omega
        clear ht htx
        go_wp2_with fail
        go_quiet (fail)
        go_wp2_with fail
        go_roundw
        case rel => exact ⟨k + 1, by go_num, by omega, below_drewN hB _⟩
        case measure => simp [intOf]; omega
      · go_wp2_with fail
        go_ret
        exact ⟨rfl, hB⟩

set_option maxRecDepth 100000 in
set_option maxHeartbeats 4000000 in
theorem alike_any (v u : Value) (f f' : Int) (ts us : List T) (w : World) (hv : Toks w v f ts) (hu : Toks w u f' us) (hal : ts.map Lx.al = us.map Lx.al) (hl : ts.length ≤ 1000000000) :
    Calls Tryd.prog 40 #[v, u] w fun e w' => e = .returned (.bool true) ∧ Below w.heap.size w w' := by
  have hlen : us.length = ts.length := by have := congrArg List.length hal; simpa using this.symm
  obtain ⟨ad, cap, rfl, -⟩ := id hv
  obtain ⟨ad', cap', rfl, -⟩ := id hu
  rcases Nat.eq_zero_or_pos ts.length with h0 | hpos
  · obtain rfl : ts = [] := List.length_eq_zero_iff.1 h0
    obtain rfl : us = [] := List.length_eq_zero_iff.1 hlen
    clear hv hu
    go_enter Tryd.func40, Tryd.ntmps40
    go_wp2_with fail
    go_loop [5] (fun i => i = .int .i64 0) (fun _ => 0)
    case atStart => exact rfl
    case round =>
      obtain rfl := hrel
      go_wp2_with fail
      go_ret
      exact ⟨rfl, Below.refl _ _⟩
  · obtain ⟨g, o, rfl, -, hcap, hmax, hg, hc⟩ := hv.cells hpos
    obtain ⟨g', o', rfl, -, hcap', hmax', hg', hc'⟩ := hu.cells (by omega)
    rw [hlen] at hcap' ⊢
    unfold maxLen at hmax hmax'
    obtain ⟨n, hn⟩ : ∃ n, n = ts.length := ⟨_, rfl⟩
    rw [← hn] at hl hcap hpos hcap' hlen
    rw [← hn]
    have Hn := Lib.hid hn
    have HC := Lib.hid hc
    have HC' := Lib.hid hc'
    have HA := Lib.hid hal
    have HLn := Lib.hid hlen
    clear hn hc hc' hv hu hal hlen
    go_enter Tryd.func40, Tryd.ntmps40
    go_wp2_with fail
    go_loopw [5] (fun i wr => ∃ k : Nat, i = .int .i64 k ∧ k ≤ n ∧ Below w.heap.size w wr) (fun i _ => n - (intOf i).toNat)
    case atStart => exact ⟨0, rfl, Nat.zero_le _, Below.refl _ _⟩
    case round =>
      obtain ⟨k, rfl, hk, hB⟩ := hrel
      have hsB := hB.size
      by_cases hlt : k < n
      · obtain ⟨t, ht⟩ : ∃ t, ts[k]? = some t := ⟨_, List.getElem?_eq_getElem (by rw [← Hn.out]; exact hlt)⟩
        obtain ⟨s, hs⟩ : ∃ s, us[k]? = some s := ⟨_, List.getElem?_eq_getElem (by rw [HLn.out]; exact hlt)⟩
        obtain ⟨d0, d1, -, -, -, d5⟩ := (HC.out k t ht).below hB hg
        obtain ⟨x0, x1, -, -, -, x5⟩ := (HC'.out k s hs).below hB hg'
        have hts : Lx.al t = Lx.al s := by
          have := congrArg (·[k]?) HA.out
          simp only [List.getElem?_map, ht, hs, Option.map_some, Option.some.injEq] at this
          exact this
        unfold Lx.al at hts
        simp only [Prod.mk.injEq] at hts
        rw [← hts.1] at x0
        rw [← hts.2.1] at x1
        rw [← hts.2.2] at x5
        obtain ⟨tx, htx⟩ : ∃ tx : ByteArray, tx = ⟨t.text.toArray⟩ := ⟨_, rfl⟩
        obtain ⟨kd, hkd⟩ : ∃ kd, kd = t.kind := ⟨_, rfl⟩
        obtain ⟨b, hb⟩ : ∃ b, b = t.bl := ⟨_, rfl⟩
        rw [← htx] at d1 x1
        rw [← hkd] at d0 x0
        rw [← hb] at d5 x5
        have z1 : (0 : Int) ≤ k := by omega
        have z2 : (k : Int) < n := by omega
        have y1 : ((kd : Int) != (kd : Int)) = false := by simp
        have y2 : (tx.toList != tx.toList) = false := by simp
        have y3 : (b != b) = false := by simp
        clear ht htx hs hts hkd hb
        go_wp2_with fail
        go_quiet (fail)
        go_wp2_with fail
        go_roundw
        case rel => exact ⟨k + 1, by go_num, by omega, below_drewN hB _⟩
        case measure => simp [intOf]; omega
      · go_wp2_with fail
        go_ret
        exact ⟨rfl, hB⟩
end Go.Proofs.YtfjbmenakcnadaaDoor
