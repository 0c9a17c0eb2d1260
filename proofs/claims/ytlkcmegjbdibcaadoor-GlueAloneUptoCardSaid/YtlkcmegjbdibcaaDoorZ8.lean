/- What is proved: what Paste tells of two tokens. -/
import Derived.Test.YtlkcmegjbdibcaaDoorV4
namespace Go.Proofs.YtlkcmegjbdibcaaDoor
open Go.RowKit Go.Shelf
open Lx (T)

noncomputable def gpasteBody : Code := Tryd.f13.body.getD .skip
set_option maxRecDepth 100000 in
set_option maxHeartbeats 4000000 in
theorem gpaste_end (w W : World) (B B6 : Nat) (ak af afr aen tk tf te : Int) (at_ ts : ByteArray) (abl tb is : Bool) (res : Value)
    (k0 : W.heap[B]? = some (.cells #[.int .i64 ak, .string at_, .int .i64 af, .int .i64 afr, .int .i64 aen, .bool abl] 26 (0, 0)))
    (k2 : W.heap[B + 1 + 1]? = some (.cells #[.int .i64 0, .string ⟨#[]⟩, .int .i64 0, .int .i64 0, .int .i64 0, .bool false] 26 (0, 0)))
    (k6 : W.heap[B6]? = some (.cells #[.int .i64 tk, .string ts, .int .i64 0, .int .i64 tf, .int .i64 te, .bool tb] 26 (0, 0)))
    (hB : Below w.heap.size w W) (hwB : w.heap.size ≤ B) (hB6 : B + 1 + 1 < B6)
    (hres : res = if is then .tuple #[.agg #[.int .i64 tk, .string ts, .int .i64 af, .int .i64 afr, .int .i64 aen, .bool abl], .int .i64 0] else .tuple #[.agg #[.int .i64 0, .string ⟨#[]⟩, .int .i64 0, .int .i64 0, .int .i64 0, .bool false], .int .i64 70])
    (c0 c1 c3 c5 c8 c9 c10 c11 c12 c13 c14 c15 c16 c17 c18 c19 c20 c21 c22 c23 c24 c25 c26 c27 c28 c29 c30 c31 c32 : Value) :
    Code.wp Tryd.prog (secs 2 gpasteBody) (bodyPost Tryd.prog Tryd.f13 (fun e w' => e = .returned res ∧ Below w.heap.size w w')) ⟨#[c0, c1, .pointer (some ⟨B, 0, none⟩), c3, .pointer (some ⟨B + 1 + 1, 0, none⟩), c5, .pointer (some ⟨B6, 0, none⟩), .bool is, c8, c9, c10, c11, c12, c13, c14, c15, c16, c17, c18, c19, c20, c21, c22, c23, c24, c25, c26, c27, c28, c29, c30, c31, c32], []⟩ W := by
  obtain ⟨x0, x1, x2, x3, x4, x5⟩ := box6_cells k0
  obtain ⟨y0, y1, y2, y3, y4, y5⟩ := box6_cells k6
  obtain ⟨z0, z1, z2, z3, z4, z5⟩ := box6_cells k2
  have hlt0 := lt_of_block k0
  have hlt2 := lt_of_block k2
  have hlt6 := lt_of_block k6
  have q0 : ∀ i, W.frozen? ⟨B + 1 + 1, i, none⟩ = false := fun i => by simp [World.frozen?, k2]
  have q6 : ∀ i, W.frozen? ⟨B6, i, none⟩ = false := fun i => by simp [World.frozen?, k6]
  have K6 := Lib.hid k6
  have K2 := Lib.hid k2
  have HB := Lib.hid hB
  have HRES := Lib.hid hres
  clear k0 k2 k6 hB hres
  refine wp_sec 2 gpasteBody rfl ?_
  conv => arg 2; whnf
  cases is
  · go_wp2_with fail
    have hset := six_set K2.out (.int .i64 0) (.string ⟨#[]⟩) (.int .i64 0) (.int .i64 0) (.int .i64 0) (.bool false)
    obtain ⟨s0, s1, s2, s3, s4, s5⟩ := box6_cells hset
    refine bodyPost_ret (v := .tuple #[.agg #[.int .i64 0, .string ⟨#[]⟩, .int .i64 0, .int .i64 0, .int .i64 0, .bool false], .int .i64 70]) (by simp [results, Tryd.results13, go_sem, s0, s1, s2, s3, s4, s5]) rfl ?_
    exact ⟨by rw [HRES.out]; rfl, six_below HB.out (by omega) _ _ _ _ _ _⟩
  · go_wp2_with fail
    refine wp_sec 3 gpasteBody rfl ?_
    conv => arg 2; whnf
    have hS : W.cell? ⟨B, 2, none⟩ = some (.int .i64 af) ∧ W.cell? ⟨B, 3, none⟩ = some (.int .i64 afr) ∧ W.cell? ⟨B, 4, none⟩ = some (.int .i64 aen) ∧ W.cell? ⟨B, 5, none⟩ = some (.bool abl) := ⟨x2, x3, x4, x5⟩
    have hn1 : ¬ B = B6 := by omega
    have hn2 : ¬ B6 = B := by omega
    go_region_held3 (fun w' => w'.cell? ⟨B, 2, none⟩ = some (.int .i64 af) ∧ w'.cell? ⟨B, 3, none⟩ = some (.int .i64 afr) ∧ w'.cell? ⟨B, 4, none⟩ = some (.int .i64 aen) ∧ w'.cell? ⟨B, 5, none⟩ = some (.bool abl))
      (first
        | exact hS
        | go_keep
        | (refine ⟨?_, ?_, ?_, ?_⟩ <;> go_keep))
      (fail)
    refine wp_sec 4 gpasteBody rfl ?_
    conv => arg 2; whnf
    go_wp2_with fail
    conv => arg 2; whnf
    go_wp2_with fail
    have h4 : ((((W.setCell ⟨B6, 2, none⟩ (.int .i64 af)).setCell ⟨B6, 3, none⟩ (.int .i64 afr)).setCell ⟨B6, 4, none⟩ (.int .i64 aen)).setCell ⟨B6, 5, none⟩ (.bool abl)).heap[B + 1 + 1]? = some (.cells #[.int .i64 0, .string ⟨#[]⟩, .int .i64 0, .int .i64 0, .int .i64 0, .bool false] 26 (0, 0)) := by
      have hn3 : ¬ B6 = B + 1 + 1 := by omega
      simp [World.setCell, Array.getElem?_modify, K2.out, hn3]
    have hB4 : Below w.heap.size w ((((W.setCell ⟨B6, 2, none⟩ (.int .i64 af)).setCell ⟨B6, 3, none⟩ (.int .i64 afr)).setCell ⟨B6, 4, none⟩ (.int .i64 aen)).setCell ⟨B6, 5, none⟩ (.bool abl)) :=
      (((HB.out.setCell (p := ⟨B6, 2, none⟩) (by show _ ≤ B6; omega) _).setCell (p := ⟨B6, 3, none⟩) (by show _ ≤ B6; omega) _).setCell (p := ⟨B6, 4, none⟩) (by show _ ≤ B6; omega) _).setCell (p := ⟨B6, 5, none⟩) (by show _ ≤ B6; omega) _
    have hset := six_set h4 (.int .i64 tk) (.string ts) (.int .i64 af) (.int .i64 afr) (.int .i64 aen) (.bool abl)
    obtain ⟨s0, s1, s2, s3, s4, s5⟩ := box6_cells hset
    refine bodyPost_ret (v := .tuple #[.agg #[.int .i64 tk, .string ts, .int .i64 af, .int .i64 afr, .int .i64 aen, .bool abl], .int .i64 0]) (by simp [results, Tryd.results13, go_sem, s0, s1, s2, s3, s4, s5]) rfl ?_
    exact ⟨by rw [HRES.out]; rfl, (six_below hB4 (by omega) _ _ _ _ _ _).drew⟩

set_option maxRecDepth 100000 in
set_option maxHeartbeats 4000000 in
theorem gpaste_any (a b : K) (w : World) (hG : Glob w) (hl : a.text.size + b.text.size ≤ 1000000000) :
    Calls Tryd.prog 13 #[kAgg a, kAgg b] w fun e w' => e = .returned (pasteV a (oneOf (a.text.data.toList ++ b.text.data.toList))) ∧ Below w.heap.size w w' := by
  obtain ⟨C, hC⟩ : ∃ C : ByteArray, C = ⟨(a.text.data.toList ++ b.text.data.toList).toArray⟩ := ⟨_, rfl⟩
  have hCd : C.data.toList = a.text.data.toList ++ b.text.data.toList := by rw [hC]
  have hCs : C.size ≤ 1000000000 := by
    have := congrArg List.length hCd
    simp only [List.length_append, size_list] at this
    omega
  have had : ∀ W, (Op.stringOp .add a.text b.text).run Tryd.prog W = .ok (.string C) W := fun W => add_ba _ _ _ (by omega) hCd W
  rw [← hCd]
  obtain ⟨o, ho⟩ : ∃ o, o = oneOf C.data.toList := ⟨_, rfl⟩
  have key := fun w' (h : Glob w') => one_any C hCs w' h
  rw [← ho] at key ⊢
  have HKEY := Lib.hid key
  clear hC hCd hCs ho key hl
  obtain ⟨ak, at_, af, afr, aen, abl⟩ := a
  obtain ⟨bk, bt, bf, bfr, ben, bbl⟩ := b
  dsimp only at had ⊢
  unfold kAgg
  have hB0 : Below w.heap.size w (((w.alloc (.cells #[.int .i64 ak, .string at_, .int .i64 af, .int .i64 afr, .int .i64 aen, .bool abl] 26)).alloc (.cells #[.int .i64 bk, .string bt, .int .i64 bf, .int .i64 bfr, .int .i64 ben, .bool bbl] 26)).alloc (.cells #[.int .i64 0, .string ⟨#[]⟩, .int .i64 0, .int .i64 0, .int .i64 0, .bool false] 26)) := (((Below.refl _ w).alloc (Nat.le_refl _) _).alloc (by simp) _).alloc (by simp; omega) _
  have k0 := heap_alloc_new w (.cells #[.int .i64 ak, .string at_, .int .i64 af, .int .i64 afr, .int .i64 aen, .bool abl] 26)
  replace k0 := (Below.heap_alloc _ (.cells #[.int .i64 bk, .string bt, .int .i64 bf, .int .i64 bfr, .int .i64 ben, .bool bbl] 26) _ (lt_of_block k0)).trans k0
  replace k0 := (Below.heap_alloc _ (.cells #[.int .i64 0, .string ⟨#[]⟩, .int .i64 0, .int .i64 0, .int .i64 0, .bool false] 26) _ (lt_of_block k0)).trans k0
  have k2 := heap_alloc_new ((w.alloc (.cells #[.int .i64 ak, .string at_, .int .i64 af, .int .i64 afr, .int .i64 aen, .bool abl] 26)).alloc (.cells #[.int .i64 bk, .string bt, .int .i64 bf, .int .i64 bfr, .int .i64 ben, .bool bbl] 26)) (.cells #[.int .i64 0, .string ⟨#[]⟩, .int .i64 0, .int .i64 0, .int .i64 0, .bool false] 26)
  simp only [World.size_alloc] at k2
  go_enter Tryd.func13, Tryd.ntmps13
  show Code.wp Tryd.prog (secs 0 gpasteBody) _ _ _
  refine wp_sec 0 gpasteBody rfl ?_
  conv => arg 2; whnf
  go_wp2_with fail
  refine wp_sec 1 gpasteBody rfl ?_
  conv => arg 2; whnf
  go_wp2_with fail
  generalize ((w.alloc (.cells #[.int .i64 ak, .string at_, .int .i64 af, .int .i64 afr, .int .i64 aen, .bool abl] 26)).alloc (.cells #[.int .i64 bk, .string bt, .int .i64 bf, .int .i64 bfr, .int .i64 ben, .bool bbl] 26)).alloc (.cells #[.int .i64 0, .string ⟨#[]⟩, .int .i64 0, .int .i64 0, .int .i64 0, .bool false] 26) = W0 at hB0 k0 k2 ⊢
  have HK := HKEY.out W0 (hG.later hB0)
  unfold OnePost at HK
  have HRV := Lib.hid (show pasteV ⟨ak, at_, af, afr, aen, abl⟩ o = if o.isSome then .tuple #[.agg #[.int .i64 (o.getD zeroTok).kind, .string ⟨(o.getD zeroTok).text.toArray⟩, .int .i64 af, .int .i64 afr, .int .i64 aen, .bool abl], .int .i64 0] else .tuple #[.agg #[.int .i64 0, .string ⟨#[]⟩, .int .i64 0, .int .i64 0, .int .i64 0, .bool false], .int .i64 70] by cases o <;> rfl)
  unfold tokAgg at HK
  generalize ((o.getD zeroTok).kind : Int) = tk at HK HRV
  generalize (⟨(o.getD zeroTok).text.toArray⟩ : ByteArray) = ts at HK HRV
  generalize ((o.getD zeroTok).fr : Int) = tf at HK
  generalize ((o.getD zeroTok).to : Int) = te at HK
  generalize (o.getD zeroTok).bl = tb at HK
  generalize o.isSome = is at HK HRV
  refine HK.mono ?_
  rintro e W1 ⟨rfl, hB1⟩
  have hA : Below W1.heap.size W1 (W1.alloc (.cells #[.int .i64 tk, .string ts, .int .i64 0, .int .i64 tf, .int .i64 te, .bool tb] 26)) := (Below.refl _ _).alloc (Nat.le_refl _) _
  have k6 := heap_alloc_new W1 (.cells #[.int .i64 tk, .string ts, .int .i64 0, .int .i64 tf, .int .i64 te, .bool tb] 26)
  replace k0 := (hB1.block _ (lt_of_block k0)).trans k0
  replace k2 := (hB1.block _ (lt_of_block k2)).trans k2
  have hz6 := lt_of_block k2
  replace k0 := (hA.block _ (lt_of_block k0)).trans k0
  replace k2 := (hA.block _ (lt_of_block k2)).trans k2
  have hBf := Below.then (Below.then hB0 hB1) hA
  clear hB0 hB1 hA HK HKEY had
  go_wp2_with fail
  exact gpaste_end w _ w.heap.size W1.heap.size ak af afr aen tk tf te at_ ts abl tb is _ k0 k2 k6 hBf (Nat.le_refl _) hz6 HRV.out _ _ _ _ _ _ _ _ _ _ _ _ _ _ _ _ _ _ _ _ _ _ _ _ _ _ _ _ _
end Go.Proofs.YtlkcmegjbdibcaaDoor
