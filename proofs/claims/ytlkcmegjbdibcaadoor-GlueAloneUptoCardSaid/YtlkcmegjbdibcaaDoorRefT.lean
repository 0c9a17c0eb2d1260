/- What is proved: what the document's own Text tells of bytes with their places. -/
import Derived.Test.YtlkcmegjbdibcaaDoorText
import Derived.Laws.StructEq
import Derived.Laws.IdiomStrings
import Derived.Laws.Concat
import Derived.Deep.QuietTactic
import Derived.BigQuiet
import Derived.WalkSmall
namespace Go.Proofs.YtlkcmegjbdibcaaDoor
open Go.RowKit Go.Shelf

theorem conv_one (c : UInt8) (w : World) : (convert 45 9 (.slice (some ⟨w.heap.size, 0, none⟩) 1 1)).run Tryd.prog (w.alloc (.cells #[.int .u8 c.toNat] 5)) = .ok (.string ⟨#[c]⟩) (w.alloc (.cells #[.int .u8 c.toNat] 5)) := by
  refine run_convert_bytes_back _ 45 9 5 ⟨w.heap.size, 0, none⟩ 1 [c] Tryd.underlying45 Tryd.underlying5 Tryd.underlying9 ?_
  intro j hj
  obtain rfl : j = 0 := by simp at hj; omega
  simp [Addr.add]

theorem mk_size (l : List UInt8) : (⟨l.toArray⟩ : ByteArray).size = l.length := by simp [ByteArray.size]

theorem add_run (a b : List UInt8) (h : a.length + b.length ≤ 100000000000) (w : World) : (Op.stringOp .add ⟨a.toArray⟩ ⟨b.toArray⟩).run Tryd.prog w = .ok (.string ⟨(a ++ b).toArray⟩) w := by
  rw [run_string_add_sum w _ _ (by rw [mk_size, mk_size]; omega), ByteArray.mk_append_mk]

set_option maxRecDepth 100000 in
set_option maxHeartbeats 1000000 in
theorem reftext_any (v : Value) (l : List Sp.Ch) (w : World) (hv : Chars w v l) (hl : l.length ≤ 4000000000) :
    Calls Tryd.prog 47 #[v] w fun e w' => e = .returned (.string ⟨(l.map Prod.fst).toArray⟩) ∧ Below w.heap.size w w' := by
  obtain ⟨ad, cap, rfl, -⟩ := id hv
  rcases Nat.eq_zero_or_pos l.length with h0 | hpos
  · obtain rfl : l = [] := List.length_eq_zero_iff.1 h0
    clear hv
    go_enter Tryd.func47, Tryd.ntmps47
    go_wp2_with fail
    go_loop [3, 4] (fun t i => t = .string ⟨#[]⟩ ∧ i = .int .i64 0) (fun _ _ => 0)
    case atStart => exact ⟨rfl, rfl⟩
    case round =>
      obtain ⟨rfl, rfl⟩ := hrel
      go_wp2_with fail
      go_ret
      exact ⟨rfl, Below.refl _ _⟩
  · obtain ⟨g, o, rfl, _, hcap, hmax, hg, hc⟩ := hv.cells hpos
    unfold maxLen at hmax
    obtain ⟨n, hn⟩ : ∃ n, n = l.length := ⟨_, rfl⟩
    rw [← hn] at hl hcap hpos
    rw [← hn]
    have Hn := Lib.hid hn
    have HC := Lib.hid hc
    clear hn hc hv
    go_enter Tryd.func47, Tryd.ntmps47
    go_wp2_with fail
    go_loopw [3, 4] (fun t i wr => ∃ (k : Nat) (acc : List UInt8), i = .int .i64 k ∧ t = .string ⟨acc.toArray⟩ ∧ acc = (l.map Prod.fst).take k ∧ k ≤ n ∧ Below w.heap.size w wr) (fun _ i _ => n - (intOf i).toNat)
    case atStart => exact ⟨0, [], rfl, rfl, rfl, Nat.zero_le _, Below.refl _ _⟩
    case round =>
      obtain ⟨k, acc, rfl, rfl, ha, hk, hB⟩ := hrel
      have hsB := hB.size
      have hlen : acc.length ≤ k := by rw [ha]; simp; omega
      have HA := Lib.hid ha
      clear ha
      by_cases hlt : k < n
      · obtain ⟨x, hx⟩ : ∃ x, l[k]? = some x := ⟨_, List.getElem?_eq_getElem (by rw [← Hn.out]; exact hlt)⟩
        obtain ⟨c0, c1⟩ := HC.out k x hx
        have d0 : wr.cell? ⟨g, o + k * 2, none⟩ = some (.int .u8 x.1.toNat) := (hB.cell (p := ⟨g, o + k * 2, none⟩) hg).trans c0
        have ht : acc ++ [x.1] = (l.map Prod.fst).take (k + 1) := by
          have hx' : (l.map Prod.fst)[k]? = some x.1 := by rw [List.getElem?_map, hx]; rfl
          obtain ⟨hk2, hx2⟩ := List.getElem?_eq_some_iff.1 hx'
          rw [List.take_succ_eq_append_getElem hk2, hx2, HA.out]
        have HT := Lib.hid ht
        clear ht hx c0 c1
        have hcv := conv_one x.1 wr
        have had : ∀ W, (Op.stringOp .add ⟨acc.toArray⟩ ⟨#[x.1]⟩).run Tryd.prog W = .ok (.string ⟨(acc ++ [x.1]).toArray⟩) W := fun W => add_run acc [x.1] (by simp; omega) W
        go_wp2_with fail
        go_roundw
        case rel => exact ⟨k + 1, acc ++ [x.1], by go_num, by simp, HT.out, by omega, hB.alloc hsB _⟩
        case measure => simp [intOf]; omega
      · go_wp2_with fail
        go_ret
        refine ⟨?_, hB⟩
        have e : l.map Prod.fst = acc := by rw [HA.out, List.take_of_length_le (by rw [List.length_map, ← Hn.out]; omega)]
        rw [e]
        rfl
end Go.Proofs.YtlkcmegjbdibcaaDoor
