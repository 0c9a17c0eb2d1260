/- What is proved: what strings.Replace and strings.ReplaceAll tell where one byte becomes two; what guarded tells. -/
import Derived.Test.YtlkcmegjbdibcaaDoorZ1
import Derived.Test.YtlkcmegjbdibcaaDoorSecs
import Derived.Lib.MakeNoZero
import Derived.Lib.ReplaceLaws
import Derived.Deep.LoopGhost
namespace Go.Proofs.YtlkcmegjbdibcaaDoor
open Go.RowKit Go.Shelf

namespace Gl
/-- A backslash ahead of each such byte. -/
def dbl (c : UInt8) (l : List UInt8) : List UInt8 := l.flatMap fun x => if x = c then [92, x] else [x]
theorem dbl_nil (c : UInt8) : dbl c [] = [] := rfl
theorem dbl_hit (c : UInt8) (l : List UInt8) : dbl c (c :: l) = 92 :: c :: dbl c l := by simp [dbl]
theorem dbl_miss {c x : UInt8} (l : List UInt8) (h : x ≠ c) : dbl c (x :: l) = x :: dbl c l := by simp [dbl, h]
theorem dbl_none {c : UInt8} : ∀ {l : List UInt8}, l.count c = 0 → dbl c l = l
  | [], _ => rfl
  | x :: l, h => by
    by_cases hx : x = c
    · subst hx; simp at h
    · rw [dbl_miss l hx, dbl_none (by rwa [List.count_cons_of_ne (by simpa using hx)] at h)]
theorem dbl_length (c : UInt8) : ∀ l : List UInt8, (dbl c l).length = l.length + l.count c
  | [] => rfl
  | x :: l => by
    have ih := dbl_length c l
    by_cases hx : x = c
    · subst hx; rw [dbl_hit]; simp [ih]; omega
    · rw [dbl_miss l hx, List.count_cons_of_ne (by simpa using hx)]; simp [ih]; omega
theorem dbl_count (c d : UInt8) (h : c ≠ d) (h92 : c ≠ 92) : ∀ l : List UInt8, (dbl d l).count c = l.count c
  | [] => rfl
  | x :: l => by
    have ih := dbl_count c d h h92 l
    by_cases hx : x = d
    · subst hx
      rw [dbl_hit, List.count_cons_of_ne (by simpa using Ne.symm h92), List.count_cons_of_ne (by simpa using Ne.symm h), List.count_cons_of_ne (by simpa using Ne.symm h), ih]
    · rw [dbl_miss l hx, List.count_cons, List.count_cons, ih]
theorem dbl_esc : ∀ l : List UInt8, dbl 34 (dbl 92 l) = esc l
  | [] => rfl
  | x :: l => by
    have ih := dbl_esc l
    by_cases h1 : x = 92
    · subst h1
      rw [dbl_hit, dbl_miss _ (by decide), dbl_miss _ (by decide), ih]; simp [esc]
    · rw [dbl_miss l h1]
      by_cases h2 : x = 34
      · subst h2; rw [dbl_hit, ih]; simp [esc]
      · rw [dbl_miss _ h2, ih]; simp [esc, h1, h2]
theorem idx_one (c : UInt8) : ∀ l : List UInt8, 0 < l.count c → ∃ j : Nat, Lib.index l [c] = j ∧ j < l.length ∧ dbl c l = l.take j ++ [92, c] ++ dbl c (l.drop (j + 1)) ∧ (l.drop (j + 1)).count c + 1 = l.count c
  | [], h => by simp at h
  | x :: l, h => by
    by_cases hx : x = c
    · subst hx
      exact ⟨0, by simp [Lib.index], by simp, by simp [dbl_hit], by simp⟩
    · have hc : 0 < l.count c := by rwa [List.count_cons_of_ne (by simpa using hx)] at h
      obtain ⟨j, h1, h2, h3, h4⟩ := idx_one c l hc
      refine ⟨j + 1, ?_, by simp; omega, ?_, ?_⟩
      · have hne : ¬ ((j : Int) == -1) = true := by simp
        have hp : ([c].isPrefixOf (x :: l)) = false := by simp [List.isPrefixOf]; exact fun e => hx e.symm
        rw [Lib.index, if_neg (by rw [hp]; simp), h1, if_neg hne]
        rfl
      · rw [dbl_miss l hx, h3]; simp
      · rw [List.count_cons_of_ne (by simpa using hx)]; simpa using h4
end Gl

set_option maxRecDepth 100000 in
set_option maxHeartbeats 2000000 in
theorem bgrow_any (b n : Nat) (w : World) (hbk : w.heap[b]? = some (.cells #[.pointer (some ⟨b, 0, none⟩), .slice none 0 0] 48 (0, 0))) (hn : n ≤ 281474976710656) :
    Calls Tryd.prog 70 #[.pointer (some ⟨b, 0, none⟩), .int .i64 n] w fun e w' => e = .returned (.tuple #[]) ∧ Bld b [] w' ∧ Below b w w' := by
  obtain ⟨i0, hi, hz0, hz1, hz2⟩ := info_parts info5
  have hlt := lt_of_heap hbk
  obtain ⟨cs, hrun, -, hmax⟩ := Lib.run_makeNoZero (P := Tryd.prog) w.drew #[3] 45 5 Tryd.underlying45 n hn
  have hw : IntKind.i64.wrap (IntKind.i64.wrap 0 + (n : Int)) = n := by
    rw [IntKind.wrap_i64, IntKind.wrap_i64]
    omega
  have hcall : (callFunc 78 #[.int .i64 (IntKind.i64.wrap (IntKind.i64.wrap 0 + (n : Int)))]).run Tryd.prog w.drew = .ok (.value (.slice (some ⟨w.drew.heap.size, 0, none⟩) n cs.size)) (w.drew.drew.drew.alloc (.cells cs 5)) := by
    rw [hw, run_callFunc_extern Tryd.func78 (by kernel_rfl) (by kernel_rfl) (by kernel_rfl) (e := Extern.BytealgMakeNoZero.makeNoZero #[3] #[45]) (by kernel_rfl), hrun]
    rfl
  have c1 : w.drew.cell? ⟨b, 1, none⟩ = some (.slice none 0 0) := by
    rw [show w.drew.cell? ⟨b, 1, none⟩ = w.cell? ⟨b, 1, none⟩ from rfl, Lib.cell_of_heap hbk]; rfl
  have hb2 : (w.alloc (.cells cs 5)).heap[b]? = some (.cells #[.pointer (some ⟨b, 0, none⟩), .slice none 0 0] 48 (0, 0)) := (Lib.alloc_old w _ b hlt).trans hbk
  have c2 : (w.alloc (.cells cs 5)).cell? ⟨b, 1, none⟩ = some (.slice none 0 0) := by rw [Lib.cell_of_heap hb2]; rfl
  have f2 : (w.alloc (.cells cs 5)).frozen? ⟨b, 1, none⟩ = false := Lib.frozen_of_heap hb2 1
  have hcopy : ∀ W : World, (Builtin.copy_ #[45, 45] 3 #[.slice (some ⟨w.heap.size, 0, none⟩) 0 cs.size, .slice none 0 0]).run Tryd.prog W = .ok (goInt 0) W :=
    fun W => run_copy_none W 45 45 3 5 _ _ 0 cs.size 0 0 Tryd.underlying45 (by kernel_rfl) rfl
  have hfin := Lib.grown_fresh (T := 48) (e := 5) (cs := cs) (Nat.le_refl b) hbk (Nat.le_of_lt hlt) (hmax (by unfold maxLen; omega)) (by decide)
  have HF := Lib.hid hfin
  clear hw hfin hbk hb2 hmax hrun hlt
  go_enter Tryd.func70, Tryd.ntmps70
  go_wp2
  go_region
  all_goals (go_wp2; go_end0; exact ⟨rfl, Lib.IsBuilderF.of (Or.inr HF.out.1), HF.out.2⟩)

set_option maxRecDepth 100000 in
set_option maxHeartbeats 2000000 in
theorem bGrow_any (b n : Nat) (w : World) (hbk : w.heap[b]? = some (.cells #[.pointer none, .slice none 0 0] 48 (0, 0))) (hn : n ≤ 281474976710656) :
    Calls Tryd.prog 58 #[.pointer (some ⟨b, 0, none⟩), .int .i64 n] w fun e w' => e = .returned (.tuple #[]) ∧ Bld b [] w' ∧ Below b w w' := by
  have hbk1 : (w.setCell ⟨b, 0, none⟩ (.pointer (some ⟨b, 0, none⟩))).heap[b]? = some (.cells #[.pointer (some ⟨b, 0, none⟩), .slice none 0 0] 48 (0, 0)) := by
    simp [World.setCell, Array.getElem?_modify, hbk]
  have hb1 : Below b w (w.setCell ⟨b, 0, none⟩ (.pointer (some ⟨b, 0, none⟩))) := (Below.refl b w).setCell (p := ⟨b, 0, none⟩) (Nat.le_refl _) _
  have k0 : w.cell? ⟨b, 0, none⟩ = some (.pointer none) := by rw [Lib.cell_of_heap hbk]; rfl
  have ks : w.shape? b = some (48, 2) := by simp [World.shape?, hbk]
  have kf : w.frozen? ⟨b, 0, none⟩ = false := Lib.frozen_of_heap hbk 0
  have KS := Lib.hid ks
  have KF := Lib.hid kf
  have HB1 := Lib.hid hb1
  have HK1 := Lib.hid hbk1
  clear hbk1 hb1 hbk ks kf
  go_enter Tryd.func58, Tryd.ntmps58
  go_wp2_with fail
  refine (check_fresh b w k0 KS.out KF.out).mono ?_
  rintro e w1 ⟨rfl, hw1⟩
  have hk1 : w1.heap[b]? = some (.cells #[.pointer (some ⟨b, 0, none⟩), .slice none 0 0] 48 (0, 0)) := by rw [hw1]; exact HK1.out
  have hb1 : Below b w w1 := by rw [hw1]; exact HB1.out
  have c1 : w1.cell? ⟨b, 1, none⟩ = some (.slice none 0 0) := by rw [Lib.cell_of_heap hk1]; rfl
  have hU : Bld b [] w1 := Or.inr ⟨Nat.le_refl b, .slice none 0 0, hk1, ⟨by simp [Lib.byteCells], .inl ⟨rfl, rfl⟩⟩, by simp [Value.ownBlock]⟩
  have HK := Lib.hid hk1
  have HB := Lib.hid hb1
  have HU := Lib.hid hU
  clear hw1 hk1 hb1 hU HB1 HK1 k0 KS KF
  go_wp2_with fail
  go_quiet (fail)
  by_cases h0 : (0 : Int) < n
  · go_wp2_with fail
    refine (bgrow_any b n (w1.drewN nq) (show w1.heap[b]? = _ from HK.out) hn).mono ?_
    rintro e w2 ⟨rfl, h2, hb2⟩
    go_wp2_with fail
    go_end0
    exact ⟨rfl, h2, (below_drewN HB.out _).trans hb2⟩
  · go_wp2_with fail
    go_end0
    exact ⟨rfl, HU.out, below_drewN HB.out _⟩
end Go.Proofs.YtlkcmegjbdibcaaDoor
