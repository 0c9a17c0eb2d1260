/- What is proved: what Text tells of bytes with their places. -/
import Derived.Test.YtlkcmegjbdibcaaDoorBld
namespace Go.Proofs.YtlkcmegjbdibcaaDoor
open Go.RowKit Go.Shelf

theorem Chars.cells {W : World} {ad : Option Addr} {n cap : Nat} {l : List Sp.Ch} (h : Chars W (.slice ad n cap) l) (hl : 0 < l.length) :
    ∃ g o, ad = some ⟨g, o, none⟩ ∧ n = l.length ∧ l.length ≤ cap ∧ cap ≤ maxLen ∧ g < W.heap.size ∧ ∀ i x, l[i]? = some x → W.cell? ⟨g, o + i * 2, none⟩ = some (.int .u8 x.1.toNat) ∧ W.cell? ⟨g, o + i * 2 + 1, none⟩ = some (.int .i64 x.2) := by
  obtain ⟨ad', cap', e, h1, h2, h3⟩ := h
  injection e with e1 e2 e3
  subst e1 e2 e3
  obtain ⟨g, o, rfl, c0, _⟩ := h3 0 _ (List.getElem?_eq_getElem hl)
  refine ⟨g, o, rfl, rfl, h1, h2, lt_of_cell c0, fun i x hx => ?_⟩
  obtain ⟨g', o', e, d0, d1⟩ := h3 i x hx
  injection e with e
  injection e with e4 e5
  subst e4 e5
  exact ⟨d0, d1⟩

set_option maxRecDepth 100000 in
set_option maxHeartbeats 1000000 in
theorem text_any (v : Value) (l : List Sp.Ch) (w : World) (hv : Chars w v l) (hl : l.length ≤ 4000000000) :
    Calls Tryd.prog 29 #[v] w fun e w' => e = .returned (.string ⟨(l.map Prod.fst).toArray⟩) ∧ Below w.heap.size w w' := by
  obtain ⟨ad, cap, rfl, -⟩ := id hv
  rcases Nat.eq_zero_or_pos l.length with h0 | hpos
  · obtain rfl : l = [] := List.length_eq_zero_iff.1 h0
    clear hv
    go_enter Tryd.func29, Tryd.ntmps29
    go_wp2_with fail
    go_loopw [8] (fun i wr => i = .int .i64 0 ∧ Bld w.heap.size [] wr ∧ Below w.heap.size w wr) (fun _ _ => 0)
    case atStart => exact ⟨rfl, Bld.new w, (Below.refl _ w).alloc (Nat.le_refl _) _⟩
    case round =>
      obtain ⟨rfl, hb, hB⟩ := hrel
      go_wp2_with fail
      refine (bstring_any w.heap.size w.heap.size [] _ hb hB.size).mono ?_
      rintro e W1 ⟨rfl, b1⟩
      go_wp2_with fail
      go_ret
      exact ⟨rfl, hB.trans b1⟩
  · obtain ⟨g, o, rfl, _, hcap, hmax, hg, hc⟩ := hv.cells hpos
    unfold maxLen at hmax
    obtain ⟨n, hn⟩ : ∃ n, n = l.length := ⟨_, rfl⟩
    rw [← hn] at hl hcap hpos
    rw [← hn]
    have Hn := Lib.hid hn
    have HC := Lib.hid hc
    clear hn hc hv
    go_enter Tryd.func29, Tryd.ntmps29
    go_wp2_with fail
    go_loopw [8] (fun i wr => ∃ k : Nat, i = .int .i64 k ∧ k ≤ n ∧ Bld w.heap.size ((l.map Prod.fst).take k) wr ∧ Below w.heap.size w wr) (fun i _ => n - (intOf i).toNat)
    case atStart => exact ⟨0, rfl, Nat.zero_le _, Bld.new w, (Below.refl _ w).alloc (Nat.le_refl _) _⟩
    case round =>
      obtain ⟨k, rfl, hk, hb, hB⟩ := hrel
      have hsB := hB.size
      by_cases hlt : k < n
      · obtain ⟨x, hx⟩ : ∃ x, l[k]? = some x := ⟨_, List.getElem?_eq_getElem (by rw [← Hn.out]; exact hlt)⟩
        obtain ⟨c0, c1⟩ := HC.out k x hx
        have d0 : wr.cell? ⟨g, o + k * 2, none⟩ = some (.int .u8 x.1.toNat) := (hB.cell (p := ⟨g, o + k * 2, none⟩) hg).trans c0
        have d1 : wr.cell? ⟨g, o + k * 2 + 1, none⟩ = some (.int .i64 x.2) := (hB.cell (p := ⟨g, o + k * 2 + 1, none⟩) hg).trans c1
        have hlen : ((l.map Prod.fst).take k).length ≤ 4000000000 := by simp; omega
        have ht : (l.map Prod.fst).take k ++ [x.1] = (l.map Prod.fst).take (k + 1) := by
          have hx' : (l.map Prod.fst)[k]? = some x.1 := by rw [List.getElem?_map, hx]; rfl
          obtain ⟨hk2, hx2⟩ := List.getElem?_eq_some_iff.1 hx'
          rw [List.take_succ_eq_append_getElem hk2, hx2]
        have HT := Lib.hid ht
        have HX := Lib.hid hx
        clear ht hx c0 c1
        have hz : w.heap.size < wr.heap.size := hb.lt
        go_wp2_with fail
        refine (wbyte_any w.heap.size _ x.1 _ (hb.alloc _) (by omega)).mono ?_
        rintro e W1 ⟨rfl, b1, hB1⟩
        go_wp2_with fail
        go_roundw
        case rel => exact ⟨k + 1, by go_num, by omega, by rw [← HT.out]; exact b1, (hB.alloc hsB _).trans hB1⟩
        case measure => simp [intOf]; omega
      · go_wp2_with fail
        refine (bstring_any w.heap.size w.heap.size _ _ hb hB.size).mono ?_
        rintro e W1 ⟨rfl, b1⟩
        go_wp2_with fail
        go_ret
        refine ⟨?_, hB.trans b1⟩
        rw [List.take_of_length_le (by rw [List.length_map, ← Hn.out]; omega)]
        rfl
end Go.Proofs.YtlkcmegjbdibcaaDoor
