/- What is proved: what the document's own Same and Text tell of bytes with their places. -/
import Derived.Test.YtenlbeagmaehlaaText
import Derived.Laws.StructEq
import Derived.Laws.IdiomStrings
import Derived.Laws.Concat
import Derived.Deep.QuietTactic
import Derived.BigQuiet
import Derived.WalkSmall
namespace Go.Proofs.Ytenlbeagmaehlaa
open Go.RowKit Go.Shelf

theorem stood37 : Try.prog.stoodInHeld 37 = false := by kernel_rfl
theorem part37a (a b : Value) (w : World) : (part 5 #[a, b] 0).run Try.prog w = .ok a w := by kernel_rfl
theorem part37b (a b : Value) (w : World) : (part 3 #[a, b] 1).run Try.prog w = .ok b w := by kernel_rfl
theorem eq5 (d : Nat) (a b : Int) (w : World) : (Op.equalIn (d + 1) 5 (.int .u8 a) (.int .u8 b)).run Try.prog w = .ok (a == b) w := by kernel_rfl
theorem eq3 (d : Nat) (a b : Int) (w : World) : (Op.equalIn (d + 1) 3 (.int .i64 a) (.int .i64 b)).run Try.prog w = .ok (a == b) w := by kernel_rfl

theorem run_same37 (a b : Int) (w : World) : (Op.equalIn 10000 37 (.agg #[.int .u8 a, .int .i64 b]) (.agg #[.int .u8 a, .int .i64 b])).run Try.prog w = .ok true w := by
  show (Op.equalIn (9998 + 1 + 1) 37 _ _).run Try.prog w = _
  rw [run_equalIn_struct w (9998 + 1) 37 _ _ (by simp [Program.fieldsOf, Try.underlying37]) stood37]
  simp only [Program.fieldsOf, Try.underlying37, Op.eqFields, Sem.run_bind, part37a, part37b, eq3, eq5, Result.andThen_ok, Sem.run_ite, Sem.run_pure]
  simp

set_option maxRecDepth 100000 in
set_option maxHeartbeats 1000000 in
theorem same_any (v u : Value) (l : List Sp.Ch) (w : World) (hv : Chars w v l) (hu : Chars w u l) (hl : l.length ≤ 4000000000) :
    Calls Try.prog 13 #[v, u] w fun e w' => e = .returned (.bool true) ∧ Below w.heap.size w w' := by
  obtain ⟨ad, cap, rfl, -⟩ := id hv
  obtain ⟨ad', cap', rfl, -⟩ := id hu
  rcases Nat.eq_zero_or_pos l.length with h0 | hpos
  · obtain rfl : l = [] := List.length_eq_zero_iff.1 h0
    clear hv hu
    go_enter Try.func13, Try.ntmps13
    go_wp2_with fail
    go_loop [5] (fun i => i = .int .i64 0) (fun _ => 0)
    case atStart => exact rfl
    case round =>
      obtain rfl := hrel
      go_wp2_with fail
      go_ret
      exact ⟨rfl, Below.refl _ _⟩
  · obtain ⟨g, o, rfl, _, hcap, hmax, hg, hc⟩ := hv.cells hpos
    obtain ⟨g', o', rfl, _, hcap', hmax', hg', hc'⟩ := hu.cells hpos
    unfold maxLen at hmax hmax'
    obtain ⟨n, hn⟩ : ∃ n, n = l.length := ⟨_, rfl⟩
    rw [← hn] at hl hcap hpos hcap'
    rw [← hn]
    have Hn := Lib.hid hn
    have HC := Lib.hid hc
    have HC' := Lib.hid hc'
    clear hn hc hc' hv hu
    go_enter Try.func13, Try.ntmps13
    go_wp2_with fail
    go_loopw [5] (fun i wr => ∃ k : Nat, i = .int .i64 k ∧ k ≤ n ∧ Below w.heap.size w wr) (fun i _ => n - (intOf i).toNat)
    case atStart => exact ⟨0, rfl, Nat.zero_le _, Below.refl _ _⟩
    case round =>
      obtain ⟨k, rfl, hk, hB⟩ := hrel
      have hsB := hB.size
      by_cases hlt : k < n
      · obtain ⟨x, hx⟩ : ∃ x, l[k]? = some x := ⟨_, List.getElem?_eq_getElem (by rw [← Hn.out]; exact hlt)⟩
        obtain ⟨c0, c1⟩ := HC.out k x hx
        obtain ⟨c2, c3⟩ := HC'.out k x hx
        have d0 : wr.cell? ⟨g, o + k * 2, none⟩ = some (.int .u8 x.1.toNat) := (hB.cell (p := ⟨g, o + k * 2, none⟩) hg).trans c0
        have d1 : wr.cell? ⟨g, o + k * 2 + 1, none⟩ = some (.int .i64 x.2) := (hB.cell (p := ⟨g, o + k * 2 + 1, none⟩) hg).trans c1
        have d2 : wr.cell? ⟨g', o' + k * 2, none⟩ = some (.int .u8 x.1.toNat) := (hB.cell (p := ⟨g', o' + k * 2, none⟩) hg').trans c2
        have d3 : wr.cell? ⟨g', o' + k * 2 + 1, none⟩ = some (.int .i64 x.2) := (hB.cell (p := ⟨g', o' + k * 2 + 1, none⟩) hg').trans c3
        have hq : ∀ W, (Op.equalIn 10000 37 (.agg #[.int .u8 x.1.toNat, .int .i64 x.2]) (.agg #[.int .u8 x.1.toNat, .int .i64 x.2])).run Try.prog W = .ok true W := fun W => run_same37 _ _ W
        have z1 : (0 : Int) ≤ k := by omega
        have z2 : (k : Int) < n := by omega
        clear hx c0 c1 c2 c3
        go_wp2_with fail
        go_quiet (fail)
        go_wp2_with fail
        go_roundw
        case rel => exact ⟨k + 1, by go_num, by omega, below_drewN hB _⟩
        case measure => simp [intOf]; omega
      · go_wp2_with fail
        go_ret
        exact ⟨rfl, hB⟩

theorem conv_one (c : UInt8) (w : World) : (convert 43 9 (.slice (some ⟨w.heap.size, 0, none⟩) 1 1)).run Try.prog (w.alloc (.cells #[.int .u8 c.toNat] 5)) = .ok (.string ⟨#[c]⟩) (w.alloc (.cells #[.int .u8 c.toNat] 5)) := by
  refine run_convert_bytes_back _ 43 9 5 ⟨w.heap.size, 0, none⟩ 1 [c] Try.underlying43 Try.underlying5 Try.underlying9 ?_
  intro j hj
  obtain rfl : j = 0 := by simp at hj; omega
  simp [Addr.add]

theorem mk_size (l : List UInt8) : (⟨l.toArray⟩ : ByteArray).size = l.length := by simp [ByteArray.size]

theorem add_run (a b : List UInt8) (h : a.length + b.length ≤ 100000000000) (w : World) : (Op.stringOp .add ⟨a.toArray⟩ ⟨b.toArray⟩).run Try.prog w = .ok (.string ⟨(a ++ b).toArray⟩) w := by
  rw [run_string_add_sum w _ _ (by rw [mk_size, mk_size]; omega), ByteArray.mk_append_mk]

set_option maxRecDepth 100000 in
set_option maxHeartbeats 1000000 in
theorem reftext_any (v : Value) (l : List Sp.Ch) (w : World) (hv : Chars w v l) (hl : l.length ≤ 4000000000) :
    Calls Try.prog 14 #[v] w fun e w' => e = .returned (.string ⟨(l.map Prod.fst).toArray⟩) ∧ Below w.heap.size w w' := by
  obtain ⟨ad, cap, rfl, -⟩ := id hv
  rcases Nat.eq_zero_or_pos l.length with h0 | hpos
  · obtain rfl : l = [] := List.length_eq_zero_iff.1 h0
    clear hv
    go_enter Try.func14, Try.ntmps14
    go_wp2_with fail
    go_loop [3, 4] (fun t i => t = .string ⟨#[]⟩ ∧ i = .int .i64 0) (fun _ _ => 0)
    case atStart => exact ⟨rfl, rfl⟩
    case round =>
      obtain ⟨rfl, rfl⟩ := hrel
      go_wp2_with fail
      go_ret
      exact ⟨rfl, Below.refl _ _⟩
  · obtain ⟨g, o, rfl, _, hcap, hmax, hg, hc⟩ := hv.cells hpos
    unfold maxLen at hmax
    obtain ⟨n, hn⟩ : ∃ n, n = l.length := ⟨_, rfl⟩
    rw [← hn] at hl hcap hpos
    rw [← hn]
    have Hn := Lib.hid hn
    have HC := Lib.hid hc
    clear hn hc hv
    go_enter Try.func14, Try.ntmps14
    go_wp2_with fail
    go_loopw [3, 4] (fun t i wr => ∃ (k : Nat) (acc : List UInt8), i = .int .i64 k ∧ t = .string ⟨acc.toArray⟩ ∧ acc = (l.map Prod.fst).take k ∧ k ≤ n ∧ Below w.heap.size w wr) (fun _ i _ => n - (intOf i).toNat)
    case atStart => exact ⟨0, [], rfl, rfl, rfl, Nat.zero_le _, Below.refl _ _⟩
    case round =>
      obtain ⟨k, acc, rfl, rfl, ha, hk, hB⟩ := hrel
      have hsB := hB.size
      have hlen : acc.length ≤ k := by rw [ha]; simp; omega
      have HA := Lib.hid ha
      clear ha
      by_cases hlt : k < n
      · obtain ⟨x, hx⟩ : ∃ x, l[k]? = some x := ⟨_, List.getElem?_eq_getElem (by rw [← Hn.out]; exact hlt)⟩
        obtain ⟨c0, c1⟩ := HC.out k x hx
        have d0 : wr.cell? ⟨g, o + k * 2, none⟩ = some (.int .u8 x.1.toNat) := (hB.cell (p := ⟨g, o + k * 2, none⟩) hg).trans c0
        have ht : acc ++ [x.1] = (l.map Prod.fst).take (k + 1) := by
          have hx' : (l.map Prod.fst)[k]? = some x.1 := by rw [List.getElem?_map, hx]; rfl
          obtain ⟨hk2, hx2⟩ := List.getElem?_eq_some_iff.1 hx'
          rw [List.take_succ_eq_append_getElem hk2, hx2, HA.out]
        have HT := Lib.hid ht
        clear ht hx c0 c1
        have hcv := conv_one x.1 wr
        have had : ∀ W, (Op.stringOp .add ⟨acc.toArray⟩ ⟨#[x.1]⟩).run Try.prog W = .ok (.string ⟨(acc ++ [x.1]).toArray⟩) W := fun W => add_run acc [x.1] (by simp; omega) W
        go_wp2_with fail
        go_roundw
        case rel => exact ⟨k + 1, acc ++ [x.1], by go_num, by simp, HT.out, by omega, hB.alloc hsB _⟩
        case measure => simp [intOf]; omega
      · go_wp2_with fail
        go_ret
        refine ⟨?_, hB⟩
        have e : l.map Prod.fst = acc := by rw [HA.out, List.take_of_length_le (by rw [List.length_map, ← Hn.out]; omega)]
        rw [e]
        rfl
end Go.Proofs.Ytenlbeagmaehlaa
