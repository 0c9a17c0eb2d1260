/- What is proved: what One tells of a text. -/
import Derived.Test.YtlkcmegjbdibcaaDoorEqt
import Derived.Test.YtlkcmegjbdibcaaDoorLx4
namespace Go.Proofs.YtlkcmegjbdibcaaDoor
open Go.RowKit Go.Shelf
open Lx (T)

/-- A token as a value. -/
def tokAgg (f : Int) (t : T) : Value := .agg #[.int .i64 t.kind, .string ⟨t.text.toArray⟩, .int .i64 f, .int .i64 t.fr, .int .i64 t.to, .bool t.bl]
def zeroTok : T := ⟨0, [], 0, 0, false⟩
/-- The token that a text is. -/
def oneOf (t : List UInt8) : Option T :=
  match Lx.tk false (Sp.left 0 t) with
  | [x] => if x.kind ≠ 7 ∧ x.text.length = t.length then some x else none
  | _ => none
def OnePost (w : World) (o : Option T) (e : Ending) (w' : World) : Prop := e = .returned (.tuple #[tokAgg 0 (o.getD zeroTok), .bool o.isSome]) ∧ Below w.heap.size w w'

set_option maxRecDepth 100000 in
set_option maxHeartbeats 4000000 in
theorem one_any (s : ByteArray) (hs : s.size ≤ 1000000000) (w : World) (hG : Glob w) : Calls Tryd.prog 18 #[.string s] w (OnePost w (oneOf s.data.toList)) := by
  have hB0 : Below w.heap.size w (w.alloc (.cells #[.int .i64 0, .string ⟨#[]⟩, .int .i64 0, .int .i64 0, .int .i64 0, .bool false] 26)) := (Below.refl _ w).alloc (Nat.le_refl _) _
  have HB0 := Lib.hid hB0
  have HG := Lib.hid (hG.later hB0)
  obtain ⟨ts, hts⟩ : ∃ ts, ts = Lx.tk false (Sp.left 0 s.data.toList) := ⟨_, rfl⟩
  obtain ⟨o, ho⟩ : ∃ o, o = oneOf s.data.toList := ⟨_, rfl⟩
  rw [← ho]
  unfold oneOf at ho
  rw [← hts] at ho
  have HT := Lib.hid hts
  have HO := Lib.hid ho
  clear hB0 hG hts ho
  go_enter Tryd.func18, Tryd.ntmps18
  go_wp2_with fail
  refine (tokens_any 0 s hs _ HG.out).mono ?_
  rintro e w1 ⟨v, rfl, hv, hB1⟩
  rw [← HT.out] at hv
  obtain ⟨ad, cap, rfl, -⟩ := id hv
  have hbk : w1.heap[w.heap.size]? = some (.cells #[.int .i64 0, .string ⟨#[]⟩, .int .i64 0, .int .i64 0, .int .i64 0, .bool false] 26 (0, 0)) := (hB1.block _ (by simp)).trans (heap_alloc_new w _)
  have hB : Below w.heap.size w w1 := HB0.out.trans (hB1.mono HB0.out.size)
  have c0 : w1.cell? ⟨w.heap.size, 0, none⟩ = some (.int .i64 0) := by rw [Lib.cell_of_heap hbk]; rfl
  have c1 : w1.cell? ⟨w.heap.size, 1, none⟩ = some (.string ⟨#[]⟩) := by rw [Lib.cell_of_heap hbk]; rfl
  have c2 : w1.cell? ⟨w.heap.size, 2, none⟩ = some (.int .i64 0) := by rw [Lib.cell_of_heap hbk]; rfl
  have c3 : w1.cell? ⟨w.heap.size, 3, none⟩ = some (.int .i64 0) := by rw [Lib.cell_of_heap hbk]; rfl
  have c4 : w1.cell? ⟨w.heap.size, 4, none⟩ = some (.int .i64 0) := by rw [Lib.cell_of_heap hbk]; rfl
  have c5 : w1.cell? ⟨w.heap.size, 5, none⟩ = some (.bool false) := by rw [Lib.cell_of_heap hbk]; rfl
  have f0 : w1.frozen? ⟨w.heap.size, 0, none⟩ = false := Lib.frozen_of_heap hbk 0
  have f1 : w1.frozen? ⟨w.heap.size, 1, none⟩ = false := Lib.frozen_of_heap hbk 1
  have f2 : w1.frozen? ⟨w.heap.size, 2, none⟩ = false := Lib.frozen_of_heap hbk 2
  have f3 : w1.frozen? ⟨w.heap.size, 3, none⟩ = false := Lib.frozen_of_heap hbk 3
  have f4 : w1.frozen? ⟨w.heap.size, 4, none⟩ = false := Lib.frozen_of_heap hbk 4
  have f5 : w1.frozen? ⟨w.heap.size, 5, none⟩ = false := Lib.frozen_of_heap hbk 5
  clear hbk hB1
  by_cases h1 : ts.length = 1
  · obtain ⟨x, rfl⟩ : ∃ x, ts = [x] := List.length_eq_one_iff.1 h1
    obtain ⟨g, o', rfl, -, hcap, hmax, hg, hc⟩ := hv.cells (by simp)
    have hcap1 : 1 ≤ cap := hcap
    unfold maxLen at hmax
    obtain ⟨d0, d1, d2, d3, d4, d5⟩ := hc 0 x rfl
    simp only [Nat.zero_mul, Nat.add_zero] at d0 d1 d2 d3 d4 d5
    obtain ⟨tx, htx⟩ : ∃ tx : ByteArray, tx = ⟨x.text.toArray⟩ := ⟨_, rfl⟩
    have htl : tx.data.toList = x.text := by rw [htx]
    rw [← htx] at d1
    have HTX := Lib.hid htx
    have hfull := Lx.one_full s.data.toList x HT.out.symm
    rw [size_list] at hfull
    have ho := HO.out
    rw [size_list] at ho
    by_cases hk : x.kind = 7
    · have t1 : ((x.kind : Int) == 7) = true := by rw [hk]; rfl
      have hn : o = none := by rw [ho]; simp [hk]
      subst hn
      clear hc hv htl hfull ho hk h1 htx
      go_wp2_with fail
      exact bodyPost_ret (v := .tuple #[tokAgg 0 zeroTok, .bool false]) (by simp [results, Tryd.results18, go_sem, tokAgg, zeroTok, c0, c1, c2, c3, c4, c5]) rfl ⟨rfl, (((((hB.setCell (p := ⟨w.heap.size, 0, none⟩) (Nat.le_refl _) _).setCell (p := ⟨w.heap.size, 1, none⟩) (Nat.le_refl _) _).setCell (p := ⟨w.heap.size, 2, none⟩) (Nat.le_refl _) _).setCell (p := ⟨w.heap.size, 3, none⟩) (Nat.le_refl _) _).setCell (p := ⟨w.heap.size, 4, none⟩) (Nat.le_refl _) _).setCell (p := ⟨w.heap.size, 5, none⟩) (Nat.le_refl _) _⟩
    · have t1 : ((x.kind : Int) == 7) = false := by rw [beq_eq_false_iff_ne]; omega
      by_cases hlen : x.text.length = s.size
      · obtain ⟨e1, -⟩ := hfull hlen
        have hst : tx = s := by
          apply ByteArray.ext
          apply Array.toList_inj.1
          rw [htl, e1]
        have t2 : (tx.toList == s.toList) = true := by rw [hst]; simp
        have t3 : (tx.toList != s.toList) = false := by simp [bne, t2]
        have hn : o = some x := by rw [ho]; simp [hk, hlen]
        subst hn
        have HST := Lib.hid hst
        clear hc hv htl hfull ho hk h1 htx e1 hlen hst
        go_wp2_with fail
        exact bodyPost_ret (v := .tuple #[tokAgg 0 x, .bool true]) (by simp [results, Tryd.results18, go_sem, tokAgg, HTX.out, c0, c1, c2, c3, c4, c5]) rfl ⟨rfl, (((((hB.setCell (p := ⟨w.heap.size, 0, none⟩) (Nat.le_refl _) _).setCell (p := ⟨w.heap.size, 1, none⟩) (Nat.le_refl _) _).setCell (p := ⟨w.heap.size, 2, none⟩) (Nat.le_refl _) _).setCell (p := ⟨w.heap.size, 3, none⟩) (Nat.le_refl _) _).setCell (p := ⟨w.heap.size, 4, none⟩) (Nat.le_refl _) _).setCell (p := ⟨w.heap.size, 5, none⟩) (Nat.le_refl _) _⟩
      · have hst : tx ≠ s := by
          intro e
          apply hlen
          rw [← htl, e, size_list]
        have t2 : (tx.toList == s.toList) = false := by rw [ba_beq]; simpa using hst
        have t3 : (tx.toList != s.toList) = true := by simp [bne, t2]
        have hn : o = none := by rw [ho]; simp [hlen]
        subst hn
        clear hc hv htl hfull ho hk h1 htx hlen hst
        go_wp2_with fail
        exact bodyPost_ret (v := .tuple #[tokAgg 0 zeroTok, .bool false]) (by simp [results, Tryd.results18, go_sem, tokAgg, zeroTok, c0, c1, c2, c3, c4, c5]) rfl ⟨rfl, (((((hB.setCell (p := ⟨w.heap.size, 0, none⟩) (Nat.le_refl _) _).setCell (p := ⟨w.heap.size, 1, none⟩) (Nat.le_refl _) _).setCell (p := ⟨w.heap.size, 2, none⟩) (Nat.le_refl _) _).setCell (p := ⟨w.heap.size, 3, none⟩) (Nat.le_refl _) _).setCell (p := ⟨w.heap.size, 4, none⟩) (Nat.le_refl _) _).setCell (p := ⟨w.heap.size, 5, none⟩) (Nat.le_refl _) _⟩
  · have t1 : ((ts.length : Int) != 1) = true := by simp [bne]; omega
    have t2 : ((ts.length : Int) == 1) = false := by rw [beq_eq_false_iff_ne]; omega
    have hn : o = none := by
      rw [HO.out]
      match ts, h1 with
      | [], _ => rfl
      | [x], h => simp at h
      | x :: y :: r, _ => rfl
    subst hn
    clear h1 hv
    go_wp2_with fail
    exact bodyPost_ret (v := .tuple #[tokAgg 0 zeroTok, .bool false]) (by simp [results, Tryd.results18, go_sem, tokAgg, zeroTok, c0, c1, c2, c3, c4, c5]) rfl ⟨rfl, (((((hB.setCell (p := ⟨w.heap.size, 0, none⟩) (Nat.le_refl _) _).setCell (p := ⟨w.heap.size, 1, none⟩) (Nat.le_refl _) _).setCell (p := ⟨w.heap.size, 2, none⟩) (Nat.le_refl _) _).setCell (p := ⟨w.heap.size, 3, none⟩) (Nat.le_refl _) _).setCell (p := ⟨w.heap.size, 4, none⟩) (Nat.le_refl _) _).setCell (p := ⟨w.heap.size, 5, none⟩) (Nat.le_refl _) _⟩
end Go.Proofs.YtlkcmegjbdibcaaDoor
