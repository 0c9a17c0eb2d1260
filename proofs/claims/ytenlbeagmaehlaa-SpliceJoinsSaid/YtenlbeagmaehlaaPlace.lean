/- What is proved: where the n-th byte that is left stands. -/
import Derived.Test.YtenlbeagmaehlaaIter
namespace Go.Proofs.Ytenlbeagmaehlaa
open Go.RowKit Go.Shelf

attribute [local go_sem] Oper.semAt_some

/-- A block of two cells, of a byte with its place. -/
def BoxedC (W : World) (B : Nat) (x : Sp.Ch) : Prop := W.heap[B]? = some (.cells #[.int .u8 x.1.toNat, .int .i64 x.2] 37 (0, 0))
theorem BoxedC.new (W : World) (x : Sp.Ch) : BoxedC (W.alloc (.cells #[.int .u8 x.1.toNat, .int .i64 x.2] 37)) W.heap.size x := World.alloc_heap_new W _
theorem BoxedC.cell0 {W : World} {B : Nat} {x : Sp.Ch} (h : BoxedC W B x) : W.cell? ⟨B, 0, none⟩ = some (.int .u8 x.1.toNat) := by simp [World.cell?, show W.heap[B]? = _ from h]
theorem BoxedC.cell1 {W : World} {B : Nat} {x : Sp.Ch} (h : BoxedC W B x) : W.cell? ⟨B, 1, none⟩ = some (.int .i64 x.2) := by simp [World.cell?, show W.heap[B]? = _ from h]
theorem BoxedC.lt {W : World} {B : Nat} {x : Sp.Ch} (h : BoxedC W B x) : B < W.heap.size := (Array.getElem?_eq_some_iff.1 h).1
theorem boxedC_own (B : Nat) (x : Sp.Ch) : Own (fun (_ : Unit) W => BoxedC W B x) := fun _ X _ _ hs hg hrow =>
  (hg.block B hs.lt (fun e' => by obtain ⟨o, ho, hc⟩ := hrow B e'.symm; rw [show X.heap[B]? = _ from hs] at ho; cases ho; cases hc)).trans hs

/-- Where the n-th byte that is left stands, or how long the text is. -/
def placeOf (t : List UInt8) (n : Nat) : Nat := match (Sp.left 0 t)[n]? with | some x => x.2 | none => t.length

set_option maxRecDepth 100000 in
set_option maxHeartbeats 2000000 in
theorem place_in (m : Nat) (hm : 3 ≤ m) (s : ByteArray) (hs : s.size ≤ 4000000000) (n : Nat) (hn : n ≤ 4000000000) (w : World) :
    CallsIn Fence.wide m Try.prog 24 #[.string s, .int .i64 n] w fun e W' => e = .returned (.int .i64 (placeOf s.data.toList n)) ∧ Below w.heap.size w W' := by
  have h1 : 1 ≤ m := by omega
  refine callsIn_of_wp_marks Try.func24 rfl trivial ?_ rfl
  simp only [Try.ntmps24, List.size_toArray, List.length_cons, List.length_nil, Nat.reduceAdd, Nat.reduceSub, Array.replicate_succ, Array.replicate_zero, List.push_toArray, List.append_toArray, List.nil_append, List.cons_append]
  gi_wp2_with fail
  refine ⟨trivial, (left_in _ s _).mono ?_⟩
  rintro e w' ⟨rfl, rfl⟩
  gi_wp2_with fail
  have bN := ((Boxed.new w 3 (.int .i64 n)).alloc (.cells #[.int .i64 0] 3)).alloc (.cells #[.string s] 9)
  have bR := (Boxed.new (w.alloc (.cells #[.int .i64 n] 3)) 3 (.int .i64 0)).alloc (.cells #[.string s] 9)
  have bT := Boxed.new ((w.alloc (.cells #[.int .i64 n] 3)).alloc (.cells #[.int .i64 0] 3)) 9 (.string s)
  simp only [World.size_alloc] at bR bT
  have hB0 : Below w.heap.size w (((w.alloc (.cells #[.int .i64 n] 3)).alloc (.cells #[.int .i64 0] 3)).alloc (.cells #[.string s] 9)) := (((Below.refl _ w).alloc (Nat.le_refl _) _).alloc (by simp) _).alloc (by simp; omega) _
  have hsz : (((w.alloc (.cells #[.int .i64 n] 3)).alloc (.cells #[.int .i64 0] 3)).alloc (.cells #[.string s] 9)).heap.size = w.heap.size + 3 := by simp
  obtain ⟨W0, hW0⟩ : ∃ W0, ((w.alloc (.cells #[.int .i64 n] 3)).alloc (.cells #[.int .i64 0] 3)).alloc (.cells #[.string s] 9) = W0 := ⟨_, rfl⟩
  rw [hW0] at bN bR bT hB0 hsz ⊢
  clear hW0
  refine wpIn_rangeFunc_ownH rfl h1 (gf := 26) (lb := #[.pointer (some ⟨w.heap.size + 1 + 1, 0, none⟩)]) rfl trivial (enters_of Try.func26 (by kernel_rfl) rfl)
    (left_stops (m - 1) (by omega) (w.heap.size + 1 + 1) s hs W0 (by omega) bT.cell) KeepB.trans (KeepB.put (by omega)) (Below.refl _ _) (fun _ => rfl)
    (fun pre W => ((Boxed W w.heap.size 3 (.int .i64 ((n - pre.length : Nat) : Int)) ∧ Boxed W (w.heap.size + 1) 3 (.int .i64 0) ∧ Boxed W (w.heap.size + 1 + 1) 9 (.string s)) ∧ Below w.heap.size w W) ∧ pre.length ≤ n)
    (fun c pre W => ((c = .ret ∧ ∃ p x, pre = p ++ [x] ∧ p.length = n ∧ Boxed W (w.heap.size + 1) 3 (.int .i64 (x : Sp.Ch).2))) ∧ Below w.heap.size w W)
    (OwnFrom.and (OwnFrom.and (OwnFrom.and (Own.from (boxed_own _ _ _) _) (OwnFrom.and (Own.from (boxed_own _ _ _) _) (Own.from (boxed_own _ _ (fun _ => Value.string s)) _))) (ownFrom_below (Nat.le_refl _) (by omega))) (ownFrom_pure _ _))
    (fun c => OwnFrom.and (Own.from (fun s A B row hs hg hr => by obtain ⟨h1, p, x, h2, h3, h4⟩ := hs; exact ⟨h1, p, x, h2, h3, boxed_own (w.heap.size + 1) 3 (fun (_ : Unit) => Value.int .i64 x.2) () A B row h4 hg hr⟩) _) (ownFrom_below (Nat.le_refl _) (by omega)))
    ⟨⟨⟨by simpa using bN, bR, bT⟩, hB0⟩, by simp⟩
    (fun x a' W => ∃ Bx, w.heap.size + 1 < Bx ∧ BoxedC W Bx x ∧ a' = { tmps := #[.string s, .int .i64 n, undef, .pointer (some ⟨w.heap.size, 0, none⟩), .pointer (some ⟨w.heap.size + 1, 0, none⟩), .pointer (some ⟨Bx, 0, none⟩), .string s, .func (.func 26) #[] #[.pointer (some ⟨w.heap.size + 1 + 1, 0, none⟩)], .agg #[.int .u8 x.1.toNat, .int .i64 x.2], undef, undef, undef, undef, undef, undef, undef, undef], defers := [] })
    (fun x a' _ X Y row hs hg hr => by obtain ⟨Bx, h1, h2, h3⟩ := hs; exact ⟨Bx, h1, boxedC_own Bx x () X Y row h2 hg (fun r e => (hr r e).2), h3⟩)
    ?assign ?body ?done ?stop
  case assign =>
    rintro l pre x W K ⟨⟨⟨bN1, bR1, bT1⟩, hB1⟩, hle⟩ hK
    dsimp only [chV]
    gi_wp2
    exact hK _ _ ((KeepsOthers.alloc _ _).from _) (Eq.trans (bT1.alloc _) (Eq.symm bT1)) ⟨⟨⟨bN1.alloc _, bR1.alloc _, bT1.alloc _⟩, hB1.alloc hB1.size _⟩, hle⟩ ⟨W.heap.size, bR1.lt, BoxedC.new W x, rfl⟩
  case body =>
    rintro l pre x a' W hl _ ⟨⟨⟨bN1, bR1, bT1⟩, hB1⟩, hle⟩ ⟨Bx, hBx, bX, rfl⟩ hlt
    have cX := bX.cell1
    have cR := bR1.cell
    have fR := bR1.frozen
    have hlen : (pre ++ [x]).length = pre.length + 1 := by simp
    obtain ⟨r, hr⟩ : ∃ r, n - pre.length = r := ⟨_, rfl⟩
    rw [hr] at bN1
    have Hr := Lib.hid hr
    have Hlen := Lib.hid hlen
    clear hr hlen
    cases r with
    | zero =>
      have cN : W.cell? ⟨w.heap.size, 0, none⟩ = some (.int .i64 0) := bN1.cell
      gi_wp2
      exact ⟨(KeepsOthers.setCell _ _ _).from _, ⟨rfl, pre, x, rfl, by have := Hr.out; omega, bR1.set _⟩, hB1.setCell (p := ⟨w.heap.size + 1, 0, none⟩) (by simp) _⟩
    | succ r =>
      have cN : W.cell? ⟨w.heap.size, 0, none⟩ = some (.int .i64 ((r : Int) + 1)) := bN1.cell
      have fN := bN1.frozen
      have z : (((r : Int) + 1) == 0) = false := beq_eq_false_iff_ne.2 (by omega)
      have hr2 : (r : Int) ≤ 4000000000 := by have := Hr.out; omega
      gi_wp2
      refine ⟨(KeepsOthers.setCell _ _ _).from _, Eq.trans (bT1.other (by omega) _) (Eq.symm bT1), ⟨⟨?_, bR1.other (by omega) _, bT1.other (by omega) _⟩, hB1.setCell (p := ⟨w.heap.size, 0, none⟩) (by simp) _⟩, ?_⟩
      · have e : n - (pre ++ [x]).length = r := by rw [Hlen.out]; have := Hr.out; omega
        rw [e]
        exact bN1.set _
      · rw [Hlen.out]; have := Hr.out; omega
  case done =>
    rintro D ys W hD rfl ⟨⟨⟨bN1, bR1, bT1⟩, hB1⟩, hle⟩ hK
    have cR := bR1.cell
    have fR := bR1.frozen
    have hpl : placeOf s.data.toList n = s.size := by unfold placeOf; rw [List.getElem?_eq_none hle]; exact size_list s
    have HP := Lib.hid hpl
    clear hpl
    gi_wp2
    have hK' := (KeepsOthers.setCell W ⟨w.heap.size + 1, 0, none⟩ (.int .i64 s.size)).same D _ hK rfl
    refine ⟨by simp, .inl ⟨_, _, rfl, run_takeDeferred hK', ?_⟩⟩
    have hc5 := cell_kept (World.cell?_setCell_same' W ⟨w.heap.size + 1, 0, none⟩ (.int .i64 s.size) (by rw [cR]; rfl)) (grownBy_putObj' _ D (.deferred none)) (fun r e => by cases e; exact ⟨_, hK', rfl⟩)
    refine ⟨.int .i64 s.size, ?_, by rw [HP.out], (hB1.setCell (p := ⟨w.heap.size + 1, 0, none⟩) (by simp) _).trans (belowK_b (w := w) (Nat.le_refl _) _ D _ _ (by omega) hK' rfl rfl)⟩
    simp [results, Try.f24, go_sem, hc5]
  case stop =>
    rintro D c pre W hD hpre ⟨⟨rfl, p, x, rfl, hp, bR1⟩, hB1⟩ hK
    have cR := bR1.cell
    have hpl : placeOf s.data.toList n = x.2 := by
      obtain ⟨q, hq⟩ := hpre
      unfold placeOf
      rw [← hq, List.append_assoc, List.getElem?_append_right (by omega), hp]
      simp
    have HP := Lib.hid hpl
    clear hpl
    gi_wp2
    refine ⟨by simp, .inl ⟨_, _, rfl, run_takeDeferred hK, ?_⟩⟩
    have hc5 := cell_kept cR (grownBy_putObj' _ D (.deferred none)) (fun r e => by cases e; exact ⟨_, hK, rfl⟩)
    refine ⟨.int .i64 x.2, ?_, by rw [HP.out], hB1.trans (belowK_b (w := w) (Nat.le_refl _) W D _ _ (by omega) hK rfl rfl)⟩
    simp [results, Try.f24, go_sem, hc5]

theorem place_any (s : ByteArray) (hs : s.size ≤ 4000000000) (n : Nat) (hn : n ≤ 4000000000) (w : World) :
    Calls Try.prog 24 #[.string s, .int .i64 n] w fun e W' => e = .returned (.int .i64 (placeOf s.data.toList n)) ∧ Below w.heap.size w W' :=
  callsIn_wide.1 (place_in 3 (by omega) s hs n hn w)
end Go.Proofs.Ytenlbeagmaehlaa
