/- What is proved: what the document's own One tells of a text. -/
import Derived.Test.YtlkcmegjbdibcaaDoorO1
namespace Go.Proofs.YtlkcmegjbdibcaaDoor
open Go.RowKit Go.Shelf
open Lx (T)

set_option maxRecDepth 100000 in
set_option maxHeartbeats 4000000 in
theorem rone_any (s : ByteArray) (hs : s.size ≤ 1000000000) (w : World) : Calls Tryd.prog 25 #[.string s] w (OnePost w (oneOf s.data.toList)) := by
  have hB0 : Below w.heap.size w (w.alloc (.cells #[.int .i64 0, .string ⟨#[]⟩, .int .i64 0, .int .i64 0, .int .i64 0, .bool false] 26)) := (Below.refl _ w).alloc (Nat.le_refl _) _
  have HB0 := Lib.hid hB0
  obtain ⟨ts, hts⟩ : ∃ ts, ts = Lx.tk false (Sp.left 0 s.data.toList) := ⟨_, rfl⟩
  obtain ⟨o, ho⟩ : ∃ o, o = oneOf s.data.toList := ⟨_, rfl⟩
  rw [← ho]
  unfold oneOf at ho
  rw [← hts] at ho
  have HT := Lib.hid hts
  have HO := Lib.hid ho
  clear hB0 hts ho
  go_enter Tryd.func25, Tryd.ntmps25
  go_wp2_with fail
  refine (rtokens_any 0 s hs _).mono ?_
  rintro e w1 ⟨v, rfl, hv, hB1⟩
  rw [← HT.out] at hv
  obtain ⟨ad, cap, rfl, -⟩ := id hv
  have hbk : w1.heap[w.heap.size]? = some (.cells #[.int .i64 0, .string ⟨#[]⟩, .int .i64 0, .int .i64 0, .int .i64 0, .bool false] 26 (0, 0)) := (hB1.block _ (by simp)).trans (heap_alloc_new w _)
  have hB : Below w.heap.size w w1 := HB0.out.trans (hB1.mono HB0.out.size)
  have c0 : w1.cell? ⟨w.heap.size, 0, none⟩ = some (.int .i64 0) := by rw [Lib.cell_of_heap hbk]; rfl
  have c1 : w1.cell? ⟨w.heap.size, 1, none⟩ = some (.string ⟨#[]⟩) := by rw [Lib.cell_of_heap hbk]; rfl
  have c2 : w1.cell? ⟨w.heap.size, 2, none⟩ = some (.int .i64 0) := by rw [Lib.cell_of_heap hbk]; rfl
  have c3 : w1.cell? ⟨w.heap.size, 3, none⟩ = some (.int .i64 0) := by rw [Lib.cell_of_heap hbk]; rfl
  have c4 : w1.cell? ⟨w.heap.size, 4, none⟩ = some (.int .i64 0) := by rw [Lib.cell_of_heap hbk]; rfl
  have c5 : w1.cell? ⟨w.heap.size, 5, none⟩ = some (.bool false) := by rw [Lib.cell_of_heap hbk]; rfl
  have f0 : w1.frozen? ⟨w.heap.size, 0, none⟩ = false := Lib.frozen_of_heap hbk 0
  have f1 : w1.frozen? ⟨w.heap.size, 1, none⟩ = false := Lib.frozen_of_heap hbk 1
  have f2 : w1.frozen? ⟨w.heap.size, 2, none⟩ = false := Lib.frozen_of_heap hbk 2
  have f3 : w1.frozen? ⟨w.heap.size, 3, none⟩ = false := Lib.frozen_of_heap hbk 3
  have f4 : w1.frozen? ⟨w.heap.size, 4, none⟩ = false := Lib.frozen_of_heap hbk 4
  have f5 : w1.frozen? ⟨w.heap.size, 5, none⟩ = false := Lib.frozen_of_heap hbk 5
  clear hbk hB1
  by_cases h1 : ts.length = 1
  · obtain ⟨x, rfl⟩ : ∃ x, ts = [x] := List.length_eq_one_iff.1 h1
    obtain ⟨g, o', rfl, -, hcap, hmax, hg, hc⟩ := hv.cells (by simp)
    have hcap1 : 1 ≤ cap := hcap
    unfold maxLen at hmax
    obtain ⟨d0, d1, d2, d3, d4, d5⟩ := hc 0 x rfl
    simp only [Nat.zero_mul, Nat.add_zero] at d0 d1 d2 d3 d4 d5
    obtain ⟨tx, htx⟩ : ∃ tx : ByteArray, tx = ⟨x.text.toArray⟩ := ⟨_, rfl⟩
    have htl : tx.data.toList = x.text := by rw [htx]
    rw [← htx] at d1
    have HTX := Lib.hid htx
    have hfull := Lx.one_full s.data.toList x HT.out.symm
    rw [size_list] at hfull
    have ho := HO.out
    rw [size_list] at ho
    by_cases hk : x.kind = 7
    · have t1 : ((x.kind : Int) == 7) = true := by rw [hk]; rfl
      have hn : o = none := by rw [ho]; simp [hk]
      subst hn
      clear hc hv htl hfull ho hk h1 htx
      go_wp2_with fail
      exact bodyPost_ret (v := .tuple #[tokAgg 0 zeroTok, .bool false]) (by simp [results, Tryd.results25, go_sem, tokAgg, zeroTok, c0, c1, c2, c3, c4, c5]) rfl ⟨rfl, (((((hB.setCell (p := ⟨w.heap.size, 0, none⟩) (Nat.le_refl _) _).setCell (p := ⟨w.heap.size, 1, none⟩) (Nat.le_refl _) _).setCell (p := ⟨w.heap.size, 2, none⟩) (Nat.le_refl _) _).setCell (p := ⟨w.heap.size, 3, none⟩) (Nat.le_refl _) _).setCell (p := ⟨w.heap.size, 4, none⟩) (Nat.le_refl _) _).setCell (p := ⟨w.heap.size, 5, none⟩) (Nat.le_refl _) _⟩
    · have t1 : ((x.kind : Int) == 7) = false := by rw [beq_eq_false_iff_ne]; omega
      have hts : tx.size = x.text.length := by rw [htx, mk_size]
      by_cases hlen : x.text.length = s.size
      · obtain ⟨-, e2, e3, e4⟩ := hfull hlen
        have hn : o = some x := by rw [ho]; simp [hk, hlen]
        subst hn
        have q1 : ((x.fr : Int) != 0) = false := by rw [e3]; rfl
        have q2 : ((x.to : Int) != (s.size : Int)) = false := by rw [e4]; simp
        have q3 : ((tx.size : Int) != (s.size : Int)) = false := by rw [hts, hlen]; simp
        have d5' := d5
        rw [e2] at d5'
        have HE2 := Lib.hid e2
        clear hc hv htl hfull ho hk h1 htx hlen hts e2 e3 e4 d5
        go_wp2_with fail
        exact bodyPost_ret (v := .tuple #[tokAgg 0 x, .bool true]) (by simp [results, Tryd.results25, go_sem, tokAgg, HTX.out, HE2.out, c0, c1, c2, c3, c4, c5]) rfl ⟨rfl, (((((hB.setCell (p := ⟨w.heap.size, 0, none⟩) (Nat.le_refl _) _).setCell (p := ⟨w.heap.size, 1, none⟩) (Nat.le_refl _) _).setCell (p := ⟨w.heap.size, 2, none⟩) (Nat.le_refl _) _).setCell (p := ⟨w.heap.size, 3, none⟩) (Nat.le_refl _) _).setCell (p := ⟨w.heap.size, 4, none⟩) (Nat.le_refl _) _).setCell (p := ⟨w.heap.size, 5, none⟩) (Nat.le_refl _) _⟩
      · have hn : o = none := by rw [ho]; simp [hlen]
        subst hn
        have q3 : ((tx.size : Int) != (s.size : Int)) = true := by rw [bne_iff_ne, hts]; omega
        have hb : x.bl = true ∨ (x.bl = false ∧ ((x.fr : Int) != 0) = true) ∨ (x.bl = false ∧ ((x.fr : Int) != 0) = false ∧ ((x.to : Int) != (s.size : Int)) = true) ∨ (x.bl = false ∧ ((x.fr : Int) != 0) = false ∧ ((x.to : Int) != (s.size : Int)) = false) := by
          cases x.bl <;> cases ((x.fr : Int) != 0) <;> cases ((x.to : Int) != (s.size : Int)) <;> simp
        clear hc hv htl hfull ho hk h1 htx hlen hts
        rcases hb with q0 | ⟨q0, q1⟩ | ⟨q0, q1, q2⟩ | ⟨q0, q1, q2⟩
        all_goals
          rw [q0] at d5
          clear q0
          go_wp2_with fail
          exact bodyPost_ret (v := .tuple #[tokAgg 0 zeroTok, .bool false]) (by simp [results, Tryd.results25, go_sem, tokAgg, zeroTok, c0, c1, c2, c3, c4, c5]) rfl ⟨rfl, (((((hB.setCell (p := ⟨w.heap.size, 0, none⟩) (Nat.le_refl _) _).setCell (p := ⟨w.heap.size, 1, none⟩) (Nat.le_refl _) _).setCell (p := ⟨w.heap.size, 2, none⟩) (Nat.le_refl _) _).setCell (p := ⟨w.heap.size, 3, none⟩) (Nat.le_refl _) _).setCell (p := ⟨w.heap.size, 4, none⟩) (Nat.le_refl _) _).setCell (p := ⟨w.heap.size, 5, none⟩) (Nat.le_refl _) _⟩
  · have t1 : ((ts.length : Int) != 1) = true := by simp [bne]; omega
    have t2 : ((ts.length : Int) == 1) = false := by rw [beq_eq_false_iff_ne]; omega
    have hn : o = none := by
      rw [HO.out]
      match ts, h1 with
      | [], _ => rfl
      | [x], h => simp at h
      | x :: y :: r, _ => rfl
    subst hn
    clear h1 hv
    go_wp2_with fail
    exact bodyPost_ret (v := .tuple #[tokAgg 0 zeroTok, .bool false]) (by simp [results, Tryd.results25, go_sem, tokAgg, zeroTok, c0, c1, c2, c3, c4, c5]) rfl ⟨rfl, (((((hB.setCell (p := ⟨w.heap.size, 0, none⟩) (Nat.le_refl _) _).setCell (p := ⟨w.heap.size, 1, none⟩) (Nat.le_refl _) _).setCell (p := ⟨w.heap.size, 2, none⟩) (Nat.le_refl _) _).setCell (p := ⟨w.heap.size, 3, none⟩) (Nat.le_refl _) _).setCell (p := ⟨w.heap.size, 4, none⟩) (Nat.le_refl _) _).setCell (p := ⟨w.heap.size, 5, none⟩) (Nat.le_refl _) _⟩
end Go.Proofs.YtlkcmegjbdibcaaDoor
