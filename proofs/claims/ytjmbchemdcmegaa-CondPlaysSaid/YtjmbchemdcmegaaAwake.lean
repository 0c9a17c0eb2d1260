/- What is proved: the chapter's examples are told as they stand. -/
import Derived.Test.YtjmbchemdcmegaaMj
import Derived.Test.YtjmbchemdcmegaaRd
namespace Go.Proofs.Ytjmbchemdcmegaa
open Go.RowKit
open Ct Ct.T

theorem TS.at_block {W : World} {ok : Nat → Prop} {b : Bool} {g n c ty : Nat} {cs : Array Value} {fz : Nat × Nat} {t : T} (hb : W.heap[g]? = some (.cells cs ty fz)) (hC : CT W ok b cs.toList t) (hok : ok g) (hn : n = t.len) (h1 : n ≤ c) (h2 : c ≤ maxLen) : TS W ok b (.slice (some ⟨g, 0, none⟩) n c) t := by
  subst hn
  refine ⟨_, c, rfl, h1, h2, fun _ => ⟨g, 0, cs.toList, rfl, hok, lt_of_block hb, fun j u hj => ?_, hC⟩⟩
  rw [Nat.zero_add, cell_of_row W g j cs ty fz hb]
  simpa using hj
theorem Ints.at_block {W : World} {g ty : Nat} {fz : Nat × Nat} (l : List Int) {n : Nat} (hn : n = l.length) (hm : n ≤ 1000000) (hb : W.heap[g]? = some (.cells (intv l).toArray ty fz)) : Ints W (.slice (some ⟨g, 0, none⟩) n n) l := by
  subst hn
  refine ⟨_, _, rfl, Nat.le_refl _, by unfold maxLen; omega, fun _ => ⟨g, 0, rfl, lt_of_block hb, fun i x hx => ?_⟩⟩
  rw [Nat.zero_add, cell_of_row W g i _ ty fz hb]
  simp [intv, hx]

def T0 : T := cons 0 0 nil (cons 1 5 (cons 1 0 (one 2 2 nil) (one 3 0 (one 4 4 nil))) nil)
theorem ex1 : Ct.parse [1, 2, 1, 6, 1, 7] = (T0, 0, 0) := by rfl
theorem ex2 : Ct.parse [7] = (nil, 0, 50) := by rfl
theorem ex3 : Ct.parse [2, 6, 5, 7] = (nil, 2, 50) := by rfl
theorem ex4 : Ct.parse [2, 3, 7] = (nil, 0, 51) := by rfl
theorem ex5 : (ar 4 true 0 T0).1.map (fun x : Nat => (x : Int)) = [3] := by rfl
theorem ex6 : (ar 5 true 0 T0).1.map (fun x : Nat => (x : Int)) = [3] := by rfl
theorem ex7 : (ar 0 true 0 T0).1.map (fun x : Nat => (x : Int)) = [] := by rfl

theorem want_tree (W : World) : Tr ((((W.alloc (.cells #[.int .i64 2, .int .i64 2, .slice none 0 0] 39)).alloc (.cells #[.int .i64 4, .int .i64 4, .slice none 0 0] 39)).alloc (.cells #[.int .i64 1, .slice (some ⟨W.heap.size, 0, none⟩) 1 1, .int .i64 3, .slice (some ⟨W.heap.size + 1, 0, none⟩) 1 1] 41)).alloc
      (.cells #[.int .i64 0, .int .i64 0, .slice none 0 0, .int .i64 1, .int .i64 5, .slice (some ⟨W.heap.size + 1 + 1, 0, none⟩) 2 2] 39)) (.slice (some ⟨W.heap.size + 1 + 1 + 1, 0, none⟩) 2 2) T0 := by
  obtain ⟨A, hA⟩ : ∃ A : Obj, A = .cells #[.int .i64 2, .int .i64 2, .slice none 0 0] 39 := ⟨_, rfl⟩
  obtain ⟨B, hB⟩ : ∃ B : Obj, B = .cells #[.int .i64 4, .int .i64 4, .slice none 0 0] 39 := ⟨_, rfl⟩
  obtain ⟨C, hC⟩ : ∃ C : Obj, C = .cells #[.int .i64 1, .slice (some ⟨W.heap.size, 0, none⟩) 1 1, .int .i64 3, .slice (some ⟨W.heap.size + 1, 0, none⟩) 1 1] 41 := ⟨_, rfl⟩
  obtain ⟨D, hD⟩ : ∃ D : Obj, D = .cells #[.int .i64 0, .int .i64 0, .slice none 0 0, .int .i64 1, .int .i64 5, .slice (some ⟨W.heap.size + 1 + 1, 0, none⟩) 2 2] 39 := ⟨_, rfl⟩
  rw [← hA, ← hB, ← hC, ← hD]
  have s1 : (W.alloc A).heap.size = W.heap.size + 1 := by simp
  have s2 : ((W.alloc A).alloc B).heap.size = W.heap.size + 1 + 1 := by simp
  have s3 : (((W.alloc A).alloc B).alloc C).heap.size = W.heap.size + 1 + 1 + 1 := by simp
  have s4 : ((((W.alloc A).alloc B).alloc C).alloc D).heap.size = W.heap.size + 1 + 1 + 1 + 1 := by simp
  have bA : ((((W.alloc A).alloc B).alloc C).alloc D).heap[W.heap.size]? = some A :=
    (Below.heap_alloc _ D _ (by omega)).trans ((Below.heap_alloc _ C _ (by omega)).trans ((Below.heap_alloc _ B _ (by omega)).trans (heap_alloc_new W A)))
  have bB : ((((W.alloc A).alloc B).alloc C).alloc D).heap[W.heap.size + 1]? = some B :=
    (Below.heap_alloc _ D _ (by omega)).trans ((Below.heap_alloc _ C _ (by omega)).trans (by rw [← s1]; exact heap_alloc_new _ B))
  have bC : ((((W.alloc A).alloc B).alloc C).alloc D).heap[W.heap.size + 1 + 1]? = some C :=
    (Below.heap_alloc _ D _ (by omega)).trans (by rw [← s2]; exact heap_alloc_new _ C)
  have bD : ((((W.alloc A).alloc B).alloc C).alloc D).heap[W.heap.size + 1 + 1 + 1]? = some D := by rw [← s3]; exact heap_alloc_new _ D
  generalize ((((W.alloc A).alloc B).alloc C).alloc D) = V at bA bB bC bD s4 ⊢
  subst hA hB hC hD
  have n0 : TS V (· < V.heap.size) false (.slice none 0 0) nil := TS.nil_at _ _ _ _ _ (Nat.zero_le _)
  have tA : TS V (· < V.heap.size) true (.slice (some ⟨W.heap.size, 0, none⟩) 1 1) (one 2 2 nil) := TS.at_block bA ⟨_, _, rfl, n0, rfl⟩ (by omega) rfl (Nat.le_refl _) (by decide)
  have tB : TS V (· < V.heap.size) true (.slice (some ⟨W.heap.size + 1, 0, none⟩) 1 1) (one 4 4 nil) := TS.at_block bB ⟨_, _, rfl, n0, rfl⟩ (by omega) rfl (Nat.le_refl _) (by decide)
  have tC : TS V (· < V.heap.size) false (.slice (some ⟨W.heap.size + 1 + 1, 0, none⟩) 2 2) (cons 1 0 (one 2 2 nil) (one 3 0 (one 4 4 nil))) := TS.at_block bC ⟨_, _, rfl, tA, _, _, rfl, tB, rfl⟩ (by omega) rfl (Nat.le_refl _) (by decide)
  exact TS.at_block bD ⟨_, _, rfl, n0, _, _, rfl, tC, rfl⟩ (by omega) rfl (Nat.le_refl _) (by decide)

set_option maxRecDepth 100000 in
set_option maxHeartbeats 8000000 in
theorem awake_any (w : World) : Calls Try.prog 9 #[] w (TruePost w) := by
  go_enter Try.func9, Try.ntmps9
  go_wp2_with fail
  refine (lines_any _ [1, 2, 1, 6, 1, 7] _ (Ints.at_block [1, 2, 1, 6, 1, 7] rfl (by decide) (heap_alloc_new w _)) (by decide)).mono ?_
  rintro e w1 ⟨u1, rfl, hL, hB1⟩
  replace hB1 := ((Below.refl _ w).alloc (Nat.le_refl _) _).trans (hB1.mono (by simp))
  have HC := Lib.hid (parse_any u1 _ w1 hL (by decide))
  rw [ex1] at HC
  clear hL
  go_wp2_with fail
  refine HC.out.mono ?_
  rintro e w2 ⟨u2, rfl, hT, hB2⟩
  clear HC
  replace hB2 := Below.then hB1 hB2
  clear hB1
  have HT := Lib.hid hT
  clear hT
  go_wp2_with fail
  refine (lines_any _ [7] _ (Ints.at_block [7] rfl (by decide) (heap_alloc_new w2 _)) (by decide)).mono ?_
  rintro e w3 ⟨u3, rfl, hL, hB3⟩
  replace hB3 := ((Below.refl _ w2).alloc (Nat.le_refl _) _).trans (hB3.mono (by simp))
  have HC := Lib.hid (parse_any u3 _ w3 hL (by decide))
  rw [ex2] at HC
  clear hL
  go_wp2_with fail
  refine HC.out.mono ?_
  rintro e w4 ⟨u4, rfl, -, hB4⟩
  clear HC
  replace hB4 := Below.then hB3 hB4
  replace HT := Lib.hid (HT.out.below hB4)
  replace hB4 := Below.then hB2 hB4
  clear hB3 hB2
  go_wp2_with fail
  refine (lines_any _ [2, 6, 5, 7] _ (Ints.at_block [2, 6, 5, 7] rfl (by decide) (heap_alloc_new w4 _)) (by decide)).mono ?_
  rintro e w5 ⟨u5, rfl, hL, hB5⟩
  replace hB5 := ((Below.refl _ w4).alloc (Nat.le_refl _) _).trans (hB5.mono (by simp))
  have HC := Lib.hid (parse_any u5 _ w5 hL (by decide))
  rw [ex3] at HC
  clear hL
  go_wp2_with fail
  refine HC.out.mono ?_
  rintro e w6 ⟨u6, rfl, -, hB6⟩
  clear HC
  replace hB6 := Below.then hB5 hB6
  replace HT := Lib.hid (HT.out.below hB6)
  replace hB6 := Below.then hB4 hB6
  clear hB5 hB4
  go_wp2_with fail
  refine (lines_any _ [2, 3, 7] _ (Ints.at_block [2, 3, 7] rfl (by decide) (heap_alloc_new w6 _)) (by decide)).mono ?_
  rintro e w7 ⟨u7, rfl, hL, hB7⟩
  replace hB7 := ((Below.refl _ w6).alloc (Nat.le_refl _) _).trans (hB7.mono (by simp))
  have HC := Lib.hid (parse_any u7 _ w7 hL (by decide))
  rw [ex4] at HC
  clear hL
  go_wp2_with fail
  refine HC.out.mono ?_
  rintro e w8 ⟨u8, rfl, -, hB8⟩
  clear HC
  replace hB8 := Below.then hB7 hB8
  replace HT := Lib.hid (HT.out.below hB8)
  replace hB8 := Below.then hB6 hB8
  clear hB7 hB6
  go_wp2_with fail
  have HC := Lib.hid (around_any T0 u2 4 w8 HT.out (by decide))
  rw [ex5] at HC
  refine HC.out.mono ?_
  rintro e w9 ⟨v9, rfl, hI9, hB9⟩
  clear HC
  replace HT := Lib.hid (HT.out.below hB9)
  replace hB9 := Below.then hB8 hB9
  clear hB8
  have HI9 := Lib.hid hI9
  clear hI9
  go_wp2_with fail
  have HC := Lib.hid (around_any T0 u2 5 w9 HT.out (by decide))
  rw [ex6] at HC
  refine HC.out.mono ?_
  rintro e w10 ⟨v10, rfl, hI10, hB10⟩
  clear HC
  replace HT := Lib.hid (HT.out.below hB10)
  replace HI9 := Lib.hid (HI9.out.below hB10)
  replace hB10 := Below.then hB9 hB10
  clear hB9
  have HI10 := Lib.hid hI10
  clear hI10
  go_wp2_with fail
  have HC := Lib.hid (around_any T0 u2 0 w10 HT.out (by decide))
  rw [ex7] at HC
  refine HC.out.mono ?_
  rintro e w11 ⟨v11, rfl, hI11, hB11⟩
  clear HC
  replace HT := Lib.hid (HT.out.below hB11)
  replace HI9 := Lib.hid (HI9.out.below hB11)
  replace HI10 := Lib.hid (HI10.out.below hB11)
  replace hB11 := Below.then hB10 hB11
  clear hB10
  obtain ⟨a11, c11, rfl, -⟩ := hI11
  simp only [List.length_nil]
  go_wp2_with fail
  have hBw : Below w11.heap.size w11 ((((w11.alloc (.cells #[.int .i64 2, .int .i64 2, .slice none 0 0] 39)).alloc (.cells #[.int .i64 4, .int .i64 4, .slice none 0 0] 39)).alloc (.cells #[.int .i64 1, .slice (some ⟨w11.heap.size, 0, none⟩) 1 1, .int .i64 3, .slice (some ⟨w11.heap.size + 1, 0, none⟩) 1 1] 41)).alloc
      (.cells #[.int .i64 0, .int .i64 0, .slice none 0 0, .int .i64 1, .int .i64 5, .slice (some ⟨w11.heap.size + 1 + 1, 0, none⟩) 2 2] 39)) :=
    ((((Below.refl _ w11).alloc (Nat.le_refl _) _).alloc (by simp) _).alloc (by simp; omega) _).alloc (by simp; omega) _
  have hwant := want_tree w11
  refine (rsame_any T0 _ _ _ (HT.out.below hBw) hwant).mono ?_
  rintro e w12 ⟨rfl, hB12⟩
  clear hwant
  replace hB12 := Below.then hBw hB12
  replace HI9 := Lib.hid (HI9.out.below hB12)
  replace HI10 := Lib.hid (HI10.out.below hB12)
  replace hB12 := Below.then hB11 hB12
  clear hB11 hBw
  go_wp2_with fail
  have hBa : Below w12.heap.size w12 (w12.alloc (.cells #[.int .i64 3] 3)) := (Below.refl _ w12).alloc (Nat.le_refl _) _
  refine (same_any _ _ [3] _ (HI9.out.below hBa) (Ints.at_block [3] rfl (by decide) (heap_alloc_new w12 _))).mono ?_
  rintro e w13 ⟨rfl, hB13⟩
  replace hB13 := Below.then hBa hB13
  replace HI10 := Lib.hid (HI10.out.below hB13)
  replace hB13 := Below.then hB12 hB13
  clear hBa hB12
  go_wp2_with fail
  have hBa : Below w13.heap.size w13 (w13.alloc (.cells #[.int .i64 3] 3)) := (Below.refl _ w13).alloc (Nat.le_refl _) _
  refine (same_any _ _ [3] _ (HI10.out.below hBa) (Ints.at_block [3] rfl (by decide) (heap_alloc_new w13 _))).mono ?_
  rintro e w14 ⟨rfl, hB14⟩
  replace hB14 := Below.then hBa hB14
  replace hB14 := Below.then hB13 hB14
  clear hBa hB13
  go_wp2_with fail
  go_ret
  exact ⟨rfl, hB14⟩
end Go.Proofs.Ytjmbchemdcmegaa
