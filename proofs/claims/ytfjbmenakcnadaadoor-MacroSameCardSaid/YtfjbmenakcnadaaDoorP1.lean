/- What is proved: what Print, the document's own Print, texts, Same and Alike tell of tokens. -/
import Derived.Test.YtfjbmenakcnadaaDoorR5
import Derived.Laws.StructEq
namespace Go.Proofs.YtfjbmenakcnadaaDoor
open Go.RowKit Go.Shelf
open Lx (T)

theorem pr_take_succ (ts : List T) (k : Nat) (t : T) (h : ts[k]? = some t) : Lx.pr (ts.take (k + 1)) = Lx.pr (ts.take k) ++ ((if t.bl then [32] else []) ++ t.text) := by
  obtain ⟨hk, e⟩ := List.getElem?_eq_some_iff.1 h
  rw [List.take_succ_eq_append_getElem hk, Lx.pr_snoc, e]
theorem pr_append (a b : List T) : Lx.pr (a ++ b) = Lx.pr a ++ Lx.pr b := by
  simp [Lx.pr, Lx.prA]
theorem pr_take_le (ts : List T) (k : Nat) : (Lx.pr (ts.take k)).length ≤ (Lx.pr ts).length := by
  have := pr_append (ts.take k) (ts.drop k)
  rw [List.take_append_drop] at this
  rw [this]; simp

set_option maxRecDepth 100000 in
set_option maxHeartbeats 4000000 in
theorem print_any (v : Value) (f : Int) (ts : List T) (w : World) (hv : Toks w v f ts) (hl : ts.length ≤ 1000000000) (hp : (Lx.pr ts).length ≤ 1000000000) :
    Calls Tryd.prog 37 #[v] w fun e w' => e = .returned (.string ⟨(Lx.pr ts).toArray⟩) ∧ Below w.heap.size w w' := by
  obtain ⟨ad, cap, rfl, -⟩ := id hv
  rcases Nat.eq_zero_or_pos ts.length with h0 | hpos
  · obtain rfl : ts = [] := List.length_eq_zero_iff.1 h0
    clear hv
    go_enter Tryd.func37, Tryd.ntmps37
    go_wp2_with fail
    go_loopw [8] (fun i wr => i = .int .i64 0 ∧ Bld w.heap.size [] wr ∧ Below w.heap.size w wr) (fun _ _ => 0)
    case atStart => exact ⟨rfl, Bld.new w, (Below.refl _ w).alloc (Nat.le_refl _) _⟩
    case round =>
      obtain ⟨rfl, hb, hB⟩ := hrel
      go_wp2_with fail
      refine (bstring_any w.heap.size w.heap.size [] _ hb hB.size).mono ?_
      rintro e W1 ⟨rfl, b1⟩
      go_wp2_with fail
      go_ret
      exact ⟨rfl, hB.trans b1⟩
  · obtain ⟨g, o, rfl, -, hcap, hmax, hg, hc⟩ := hv.cells hpos
    unfold maxLen at hmax
    obtain ⟨n, hn⟩ : ∃ n, n = ts.length := ⟨_, rfl⟩
    rw [← hn] at hl hcap hpos
    rw [← hn]
    obtain ⟨X, hX⟩ : ∃ X, X = Lx.pr ts := ⟨_, rfl⟩
    rw [← hX] at hp ⊢
    have HXx := Lib.hid hX
    have Hn := Lib.hid hn
    have HC := Lib.hid hc
    clear hn hc hv hX
    go_enter Tryd.func37, Tryd.ntmps37
    go_wp2_with fail
    go_loopw [8] (fun i wr => ∃ k : Nat, i = .int .i64 k ∧ k ≤ n ∧ Bld w.heap.size (Lx.pr (ts.take k)) wr ∧ Below w.heap.size w wr) (fun i _ => n - (intOf i).toNat)
    case atStart => exact ⟨0, rfl, Nat.zero_le _, Bld.new w, (Below.refl _ w).alloc (Nat.le_refl _) _⟩
    case round =>
      obtain ⟨k, rfl, hk, hb, hB⟩ := hrel
      have hsB := hB.size
      by_cases hlt : k < n
      · obtain ⟨t, ht⟩ : ∃ t, ts[k]? = some t := ⟨_, List.getElem?_eq_getElem (by rw [← Hn.out]; exact hlt)⟩
        obtain ⟨d0, d1, d2, d3, d4, d5⟩ := (HC.out k t ht).below hB hg
        have hst := pr_take_succ ts k t ht
        have hle := pr_take_le ts (k + 1)
        rw [← HXx.out, hst] at hle
        obtain ⟨A, hA⟩ : ∃ A, A = Lx.pr (ts.take k) := ⟨_, rfl⟩
        rw [← hA] at hb hst hle
        simp only [List.length_append] at hle
        obtain ⟨Tx, hTx⟩ : ∃ Tx : ByteArray, Tx = ⟨t.text.toArray⟩ := ⟨_, rfl⟩
        have hTl : Tx.data.toList = t.text := by rw [hTx]
        have hTs : Tx.size = t.text.length := by rw [hTx, mk_size]
        rw [← hTx] at d1
        have hlA : A.length ≤ 1000000000 := by omega
        have hlT : Tx.size ≤ 1000000000 := by rw [hTs]; omega
        have HT := Lib.hid hTl
        have HS := Lib.hid hst
        have hz : w.heap.size < wr.heap.size := hb.lt
        clear ht hst hA hTx hTl hTs hle
        cases hbl : t.bl with
        | true =>
          rw [hbl] at d5
          have HBl := Lib.hid hbl
          clear hbl
          go_wp2_with fail
          refine (wbyte_keep w.heap.size A 32 _ (hb.alloc _) (by omega)).mono ?_
          rintro e W1 ⟨rfl, b1, hB1, hK1⟩
          have x1 : W1.cell? ⟨wr.heap.size, 1, none⟩ = some (.string Tx) := hK1.cell (o := 1) (by omega) (by decide) (heap_alloc_new wr _)
          go_wp2_with fail
          refine (wstring_any w.heap.size (A ++ [32]) Tx _ b1 (by simp; omega) (by omega)).mono ?_
          rintro e W2 ⟨rfl, b2, hB2⟩
          go_wp2_with fail
          go_roundw
          case rel => exact ⟨k + 1, by go_num, by omega, by rw [HS.out, HBl.out, ← HT.out]; simpa using b2, ((hB.alloc hsB _).trans hB1).trans hB2⟩
          case measure => simp [intOf]; omega
        | false =>
          rw [hbl] at d5
          have HBl := Lib.hid hbl
          clear hbl
          go_wp2_with fail
          refine (wstring_any w.heap.size A Tx _ (hb.alloc _) (by omega) (by omega)).mono ?_
          rintro e W2 ⟨rfl, b2, hB2⟩
          go_wp2_with fail
          go_roundw
          case rel => exact ⟨k + 1, by go_num, by omega, by rw [HS.out, HBl.out, ← HT.out]; simpa using b2, (hB.alloc hsB _).trans hB2⟩
          case measure => simp [intOf]; omega
      · go_wp2_with fail
        refine (bstring_any w.heap.size w.heap.size _ _ hb hB.size).mono ?_
        rintro e W1 ⟨rfl, b1⟩
        go_wp2_with fail
        go_ret
        refine ⟨?_, hB.trans b1⟩
        rw [List.take_of_length_le (by rw [← Hn.out]; omega), ← HXx.out]
        rfl
end Go.Proofs.YtfjbmenakcnadaaDoor
