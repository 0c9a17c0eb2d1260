/- What is proved: what Join tells of any text: the bytes that are left, with their places, in new memory. -/
import Derived.Test.YtlkcmegjbdibcaaDoorBox
import Derived.Maps.AppendAt
namespace Go.Proofs.YtlkcmegjbdibcaaDoor
open Go.RowKit Go.Shelf

attribute [local go_sem] Oper.semAt_some

/-- The cells of bytes with their places. -/
def cellsC : List Sp.Ch → List Value
  | [] => []
  | x :: r => .int .u8 x.1.toNat :: .int .i64 x.2 :: cellsC r
theorem cellsC_append (a b : List Sp.Ch) : cellsC (a ++ b) = cellsC a ++ cellsC b := by
  induction a with
  | nil => rfl
  | cons x r ih => simp [cellsC, ih]
theorem cellsC_length (a : List Sp.Ch) : (cellsC a).length = a.length * 2 := by
  induction a with
  | nil => rfl
  | cons x r ih => simp [cellsC, ih]; omega
theorem cellsC_get (a : List Sp.Ch) : ∀ i x, a[i]? = some x → (cellsC a)[i * 2]? = some (.int .u8 x.1.toNat) ∧ (cellsC a)[i * 2 + 1]? = some (.int .i64 x.2) := by
  induction a with
  | nil => intro i x h; simp at h
  | cons y r ih =>
    intro i x h
    cases i with
    | zero => simp at h; subst h; simp [cellsC]
    | succ i =>
      simp at h
      have := ih i x h
      rw [show (i + 1) * 2 = i * 2 + 1 + 1 by omega]
      simpa [cellsC] using this

/-- A slice value whose elements are these bytes with their places. -/
def Chars (W : World) (v : Value) (l : List Sp.Ch) : Prop :=
  ∃ ad cap, v = .slice ad l.length cap ∧ l.length ≤ cap ∧ cap ≤ maxLen ∧ ∀ i x, l[i]? = some x → ∃ g o, ad = some ⟨g, o, none⟩ ∧ W.cell? ⟨g, o + i * 2, none⟩ = some (.int .u8 x.1.toNat) ∧ W.cell? ⟨g, o + i * 2 + 1, none⟩ = some (.int .i64 x.2)

theorem Chars.below {W W' : World} {v : Value} {l : List Sp.Ch} (h : Chars W v l) (hb : Below W.heap.size W W') : Chars W' v l := by
  obtain ⟨ad, cap, rfl, h1, h2, h3⟩ := h
  refine ⟨ad, cap, rfl, h1, h2, fun i x hx => ?_⟩
  obtain ⟨g, o, e, c0, c1⟩ := h3 i x hx
  have hg := lt_of_cell c0
  exact ⟨g, o, e, (hb.cell (p := ⟨g, o + i * 2, none⟩) hg).trans c0, (hb.cell (p := ⟨g, o + i * 2 + 1, none⟩) hg).trans c1⟩

theorem add_none (b o j : Nat) : (⟨b, o, none⟩ : Addr).add j = ⟨b, o + j, none⟩ := by
  unfold Addr.add
  split
  · rename_i e; subst e; rfl
  · rfl

theorem Chars.of_row {W : World} {base : Nat} {v : Value} {l : List Sp.Ch} (h : W.ownsRow base 60 2 v l.length (cellsC l)) : Chars W v l := by
  have hc := fun g => h.cells (g := g)
  rcases h.2 with ⟨rfl, h0⟩ | ⟨g, cap, cur, rfl, _, _, h1, h2, _, _⟩
  · refine ⟨none, 0, by rw [h0], by omega, Nat.zero_le _, fun i x hx => ?_⟩
    rw [List.length_eq_zero_iff.1 h0] at hx
    simp at hx
  · refine ⟨_, cap, rfl, h1, h2, fun i x hx => ⟨g, 0, rfl, ?_, ?_⟩⟩
    · have := hc g rfl (i * 2) _ (cellsC_get l i x hx).1
      rwa [add_none] at this
    · have := hc g rfl (i * 2 + 1) _ (cellsC_get l i x hx).2
      rwa [add_none] at this

theorem info37 : (Tryd.prog.info? 60).map (fun i => (i.zero, i.size, i.bytes)) = some (some (.agg #[.int .u8 0, .int .i64 0]), 2, 16) := by kernel_rfl

theorem cell_two_new (w : World) (x y : Value) (t : TypeId) : ∀ j u, [x, y][j]? = some u → (w.alloc (.cells #[x, y] t)).cell? ((⟨w.heap.size, 0, none⟩ : Addr).add j) = some u := by
  intro j u hj
  match j, hj with
  | 0, hj => simp at hj; subst hj; simp [Addr.add]
  | 1, hj => simp at hj; subst hj; simp [Addr.add]

set_option maxRecDepth 100000 in
set_option maxHeartbeats 2000000 in
theorem join_in (m : Nat) (hm : 3 ≤ m) (s : ByteArray) (hs : s.size ≤ 4000000000) (w : World) (hG : Glob w) :
    CallsIn Fence.wide m Tryd.prog 28 #[.string s] w fun e W' => ∃ v, e = .returned v ∧ W'.ownsRow w.heap.size 60 2 v (Sp.left 0 s.data.toList).length (cellsC (Sp.left 0 s.data.toList)) ∧ Below w.heap.size w W' := by
  have h1 : 1 ≤ m := by omega
  obtain ⟨i0, hi, hz0, hz1, hz2⟩ := info_parts info37
  have hlen := Sp.left_le 0 s.data.toList
  rw [size_list] at hlen
  refine callsIn_of_wp_marks Tryd.func28 rfl trivial ?_ rfl
  simp only [Tryd.ntmps28, List.size_toArray, List.length_cons, List.length_nil, Nat.reduceAdd, Nat.reduceSub, Array.replicate_succ, Array.replicate_zero, List.push_toArray, List.append_toArray, List.nil_append, List.cons_append]
  gi_wp2_with fail
  refine ⟨trivial, (callsIn_wide.2 (kept_any s _ hG hs)).mono ?_⟩
  rintro e w' ⟨rfl, rfl⟩
  gi_wp2_with (gi_at_make; refine wpListIn_make_own _ rfl _ _ 53 rfl w.heap.size 60 i0 (.agg #[.int .u8 0, .int .i64 0]) 2 Tryd.underlying53 hi hz0 hz1 .i64 .i64 _ _ rfl rfl rfl (by rw [hz2]; omega) (by unfold maxLen; omega) (Nat.le_refl _) ?_; intro w1 hrow1 hg1)
  refine ⟨trivial, (left_in _ s _).mono ?_⟩
  rintro e w' ⟨rfl, rfl⟩
  gi_wp2_with fail
  obtain ⟨n, hn⟩ : ∃ n, n = (Sp.left 0 s.data.toList).length := ⟨_, rfl⟩
  rw [← hn] at hlen hrow1 ⊢
  have Hn := Lib.hid hn
  clear hn
  have hsw1 := hg1.size
  have bL := (Boxed.new w1 53 (.slice (some ⟨w.heap.size, 0, none⟩) 0 n)).alloc (.cells #[.string s] 9)
  have bT := Boxed.new (w1.alloc (.cells #[.slice (some ⟨w.heap.size, 0, none⟩) 0 n] 53)) 9 (.string s)
  simp only [World.size_alloc] at bT
  have hrow := (hrow1.alloc (.cells #[.slice (some ⟨w.heap.size, 0, none⟩) 0 n] 53)).alloc (.cells #[.string s] 9)
  have hB0 : Below w.heap.size w ((w1.alloc (.cells #[.slice (some ⟨w.heap.size, 0, none⟩) 0 n] 53)).alloc (.cells #[.string s] 9)) := (((Below.refl _ w).grown hg1 (Nat.le_refl _) (fun _ e => by cases e)).alloc hsw1 _).alloc (by simp; omega) _
  have hsz : ((w1.alloc (.cells #[.slice (some ⟨w.heap.size, 0, none⟩) 0 n] 53)).alloc (.cells #[.string s] 9)).heap.size = w1.heap.size + 2 := by simp
  obtain ⟨W0, hW0⟩ : ∃ W0, (w1.alloc (.cells #[.slice (some ⟨w.heap.size, 0, none⟩) 0 n] 53)).alloc (.cells #[.string s] 9) = W0 := ⟨_, rfl⟩
  rw [hW0] at bL bT hrow hB0 hsz ⊢
  clear hW0
  refine wpIn_rangeFunc_ownH rfl h1 (gf := 52) (lb := #[.pointer (some ⟨w1.heap.size + 1, 0, none⟩)]) rfl trivial (enters_of Tryd.func52 (by kernel_rfl) rfl)
    (left_stops (m - 1) (by omega) (w1.heap.size + 1) s hs W0 (by omega) bT.cell) KeepB.trans (KeepB.put (by omega)) (Below.refl _ _) (fun _ => rfl)
    (fun pre W => ((∃ v, Boxed W w1.heap.size 53 v ∧ W.ownsRow w.heap.size 60 2 v pre.length (cellsC pre) ∧ True) ∧ Boxed W (w1.heap.size + 1) 9 (.string s)) ∧ Below w.heap.size w W)
    (fun _ _ _ => False)
    (OwnFrom.and (OwnFrom.and (Own.from (holdsRow_own w.heap.size w1.heap.size 53 60 2 (fun pre => pre.length) (fun pre => cellsC pre) (fun _ _ => True)) _) (Own.from (boxed_own _ _ (fun _ => Value.string s)) _)) (ownFrom_below (Nat.le_refl _) (by omega)))
    (fun _ _ _ _ _ hs _ _ => hs)
    ⟨⟨⟨_, bL, hrow, trivial⟩, bT⟩, hB0⟩
    (fun x a' W => ∃ Bx, w1.heap.size + 1 < Bx ∧ BoxedC W Bx x ∧ a' = { tmps := #[.string s, undef, .slice none 0 0, .pointer (some ⟨w1.heap.size, 0, none⟩), .pointer (some ⟨Bx, 0, none⟩), .string s, .int .i64 n, .slice (some ⟨w.heap.size, 0, none⟩) 0 n, .string s, .func (.func 52) #[] #[.pointer (some ⟨w1.heap.size + 1, 0, none⟩)], .agg #[.int .u8 x.1.toNat, .int .i64 x.2], undef, undef, undef, undef, undef], defers := [] })
    (fun x a' _ X Y row hs hg hr => by obtain ⟨Bx, h1, h2, h3⟩ := hs; exact ⟨Bx, h1, boxedC_own Bx x () X Y row h2 hg (fun r e => (hr r e).2), h3⟩)
    ?assign ?body ?done ?stop
  case assign =>
    rintro l pre x W K ⟨⟨⟨v, bL1, hrow', _⟩, bT1⟩, hB1⟩ hK
    dsimp only [chV]
    gi_wp2
    exact hK _ _ ((KeepsOthers.alloc _ _).from _) (Eq.trans (bT1.alloc _) (Eq.symm bT1)) ⟨⟨⟨v, bL1.alloc _, hrow'.alloc _, trivial⟩, bT1.alloc _⟩, hB1.alloc hB1.size _⟩ ⟨W.heap.size, bT1.lt, BoxedC.new W x, rfl⟩
  case body =>
    rintro l pre x a' W hl _ ⟨⟨⟨v, bL1, hrow', _⟩, bT1⟩, hB1⟩ ⟨Bx, hBx, bX, rfl⟩ hlt
    have cX0 := bX.cell0
    have cX1 := bX.cell1
    have cL := bL1.cell
    rw [← Hn.out] at hlt
    gi_wp2_with (gi_at_builtin; refine wpListIn_append_own _ rfl _ _ 53 rfl w.heap.size 60 i0 (.agg #[.int .u8 0, .int .i64 0]) 2 16 Tryd.underlying53 hi hz0 hz1 hz2 rfl (by decide) _ _ _ rfl (hrow'.alloc _) ⟨W.heap.size, 0, none⟩ 1 1 [.int .u8 x.1.toNat, .int .i64 x.2] rfl rfl (cell_two_new _ _ _ _) (by simp [Value.oneCell']) (by unfold maxLen; omega) (by omega) (by have := hB1.size; simp; omega) ?_; intro v' w2 hown' hgrow _; obtain ⟨g', cap', rfl⟩ := ownsRow_succ hown'; obtain ⟨hv1, hv2, hr2, hk2, hb2⟩ := bL1.appended (by decide) hrow' hB1.size (by omega) hown' hgrow; have hc1 := hv1.cell; have hf1 := hv1.frozen)
    have bT2 := ((bT1.alloc (.cells #[.int .u8 x.1.toNat, .int .i64 x.2] 60)).kept hgrow (bT1.not_row (by decide) hrow')).other (B' := w1.heap.size) (by omega) (.slice (some ⟨g', 0, none⟩) (pre.length + 1) cap')
    refine ⟨hk2.from _, Eq.trans bT2 (Eq.symm bT1), ⟨⟨_, hv2, ?_, trivial⟩, bT2⟩, hB1.trans hb2⟩
    rw [List.length_append, cellsC_append]
    exact hr2
  case done =>
    rintro D ys W hD rfl ⟨⟨⟨v, bL1, hrow', _⟩, bT1⟩, hB1⟩ hK
    have cL := bL1.cell
    gi_wp2
    refine ⟨by simp, .inl ⟨_, _, rfl, run_takeDeferred hK, ?_⟩⟩
    exact ⟨_, results_tmp rfl _ _ _, v, rfl, ownsRow_putObj hrow' _ hK rfl, hB1.trans (belowK_b (w := w) (Nat.le_refl _) W D _ _ (by omega) hK rfl rfl)⟩
  case stop =>
    rintro D c pre W _ _ h _
    exact h.elim

/-- Join: new memory that holds just the bytes that are left, with their places. -/
def JoinPost (w : World) (t : List UInt8) (e : Ending) (w' : World) : Prop := ∃ v, e = .returned v ∧ Chars w' v (Sp.left 0 t) ∧ Below w.heap.size w w'

theorem join_any (s : ByteArray) (hs : s.size ≤ 4000000000) (w : World) (hG : Glob w) : Calls Tryd.prog 28 #[.string s] w (JoinPost w s.data.toList) :=
  (callsIn_wide.1 (join_in 3 (by omega) s hs w hG)).mono fun _ _ ⟨v, h1, h2, h3⟩ => ⟨v, h1, Chars.of_row h2, h3⟩
end Go.Proofs.YtlkcmegjbdibcaaDoor
