/- What is proved: param takes one more name. -/
import Derived.Test.YtfjbmenakcnadaaDoorM5
namespace Go.Proofs.YtfjbmenakcnadaaDoor
open Go.RowKit Go.Shelf Go.WideMaps

def ParPost (base R mb : Nat) (nm : ByteArray) (fn : Bool) (ps : List ByteArray) (bv lv : Value) (l : List K) (w : World) (e : Ending) (w' : World) : Prop :=
  e = .returned (.tuple #[]) ∧ ∃ pv, Rd w' base R mb nm fn pv ps false bv lv l ∧ Below base w w'

theorem Gr.drew (w : World) (u : Value) : Gr w w.drew u u := ⟨⟨rfl, rfl, rfl, Nat.le_refl _, fun _ _ _ => rfl⟩, fun _ h => .inl h⟩

set_option maxRecDepth 100000 in
set_option maxHeartbeats 4000000 in
theorem param_id (base R mb : Nat) (nm : ByteArray) (fn : Bool) (pv : Value) (ps : List ByteArray) (bv lv : Value) (l : List K) (t : K) (w : World)
    (h : Rd w base R mb nm fn pv ps false bv lv l) (ht : Mx.isP t Mx.EL = false) (hp : Mx.parOk ps t = true) (hx : t.text.size ≤ maxLen) (hl : (ps.length + 1) * 16 ≤ 140737488355328) :
    Calls Tryd.prog 85 #[.pointer (some ⟨R, 0, none⟩), kAgg t] w (ParPost base R mb nm fn (ps ++ [t.text]) bv lv l w) := by
  have key := msign_any t Mx.EL
  rw [ht] at key
  obtain ⟨i0, hi, hz0, hz1, hz2⟩ := info_parts infoStr
  have kn := fun w1 h1 => known_any base R mb nm fn pv ps false bv lv l t w1 h1 hx
  obtain ⟨kind, tx, f, a, b, bl⟩ := t
  dsimp only [kAgg] at key kn hx ⊢
  have hB0 : Below w.heap.size w (w.alloc (.cells #[.int .i64 kind, .string tx, .int .i64 f, .int .i64 a, .int .i64 b, .bool bl] 39)) := (Below.refl _ w).alloc (Nat.le_refl _) _
  have hblk := heap_alloc_new w (.cells #[.int .i64 kind, .string tx, .int .i64 f, .int .i64 a, .int .i64 b, .bool bl] 39)
  simp only [Mx.parOk, Bool.and_eq_true, beq_iff_eq, Bool.not_eq_true', decide_eq_false_iff_not] at hp
  obtain ⟨rfl, hv, hh⟩ := hp
  have t2 : (tx.toList == [95, 95, 86, 65, 95, 65, 82, 71, 83, 95, 95]) = false := lit_no hv
  rw [show Mx.known ps false ⟨1, tx, f, a, b, bl⟩ = false by simp [Mx.known, hh]] at kn
  go_enter Tryd.func85, Tryd.ntmps85
  go_wp2_with fail
  generalize (w.alloc (.cells #[.int .i64 1, .string tx, .int .i64 f, .int .i64 a, .int .i64 b, .bool bl] 39)) = W at hB0 hblk ⊢
  refine (key _).mono ?_
  rintro e W1 ⟨rfl, hB1⟩
  have hbw := (hB1.block _ (lt_of_cell ((Lib.cell_of_heap hblk 0).trans rfl))).trans hblk
  have hB := Below.then hB0 hB1
  have h1 := h.keep hB
  have e0 := (Lib.cell_of_heap hbw 0).trans rfl
  have e1 := (Lib.cell_of_heap hbw 1).trans rfl
  have e2 := (Lib.cell_of_heap hbw 2).trans rfl
  have e3 := (Lib.cell_of_heap hbw 3).trans rfl
  have e4 := (Lib.cell_of_heap hbw 4).trans rfl
  have e5 := (Lib.cell_of_heap hbw 5).trans rfl
  go_wp2_with fail
  refine (kn _ h1).mono ?_
  rintro e W2 ⟨rfl, hB2⟩
  have hbw2 := (hB2.block _ (lt_of_cell e0)).trans hbw
  replace hB := Below.then hB hB2
  go_wp2_with fail
  refine (must_ok 61 _).mono ?_
  rintro e W3 ⟨rfl, hW3⟩
  subst hW3
  have h2 := h.keep hB
  clear e0 e1 e2 e3 e4 e5 hbw hblk hB0 hB1 h1 hB2
  have e1 := (Lib.cell_of_heap hbw2 1).trans rfl
  have hbl := lt_of_cell e1
  have c6 := (h2.cell 6).trans rfl
  have hR := h2.ltR
  obtain ⟨W4, r1, r2, r3⟩ := MapOf.put (W := W3.drew) h2.mp tx hx (by unfold maxLen; omega)
  go_wp2_with fail
  have hBm := hB.mono h.big
  have hR4 : W4.heap[R]? = some (.cells #[.string nm, .bool fn, pv, .bool false, bv, lv, .map (some mb)] 72 (0, 0)) := (r3.block R h2.ltR (by simpa using Ne.symm h2.ne)).trans h2.blk
  have hbb : w.heap.size ≠ mb := fun e => by
    obtain ⟨n, D, hm1, _⟩ := h.mp
    have := hm1.lt; omega
  have hbw4 := (r3.block w.heap.size (lt_of_cell e1) (by simpa using hbb)).trans hbw2
  have hrow4 : W4.ownsRow base 9 1 pv ps.length (strCells ps) := row_heap h2.prow fun k e => r3.block k (h2.prow.lt k e).2 fun e' => h2.pm (by rw [e, e'])
  have hB4 : Below base w W4 := (Below.drew hBm).grown r3 h2.big (by simp; exact h2.hm)
  have hb4 : base ≤ W4.heap.size := Nat.le_trans h2.big r3.size
  have hltR := (Array.getElem?_eq_some_iff.1 hR4).1
  go_region
  clear e1 c6 hbl hR r1
  have c2 := (Lib.cell_of_heap hR4 2).trans rfl
  have f2 : W4.frozen? ⟨R, 2, none⟩ = false := by simp [World.frozen?, hR4]
  have e1 := (Lib.cell_of_heap hbw4 1).trans rfl
  have hRl := lt_of_cell c2
  have hbl := lt_of_cell e1
  have hne := h.pR
  have hRR := fun W' (hR : W'.heap[R]? = W4.heap[R]?) => World.cell?_of_block (w := W4) (w' := W') (a := ⟨R, 2, none⟩) hR
  obtain ⟨n, hn⟩ : ∃ n, n = ps.length := ⟨_, rfl⟩
  rw [← hn] at hl hrow4
  have HN := Lib.hid hn
  have HI := Lib.hid hi
  have HZ0 := Lib.hid hz0
  have HZ1 := Lib.hid hz1
  have HZ2 := Lib.hid hz2
  have HRW := Lib.hid hrow4
  have HC := Lib.hid c2
  have HF := Lib.hid f2
  have HNE := Lib.hid hne
  have HR2 := Lib.hid r2
  have HR3 := Lib.hid r3
  have H2 := Lib.hid h2
  have HB4 := Lib.hid hB4
  have HLT := Lib.hid hltR
  have HBS := Lib.hid hb4
  have hbase0 : base ≤ ((W4.alloc (.cells #[.string tx] 9)).drew).heap.size := by simp; omega
  clear hi hz0 hz1 hz2 hrow4 hne h r2 r3 hB hBm hR4 hbw4 hbw2 hB4 hn hbb hRR h2 hltR hb4
  go_wp2_with fail
  go_region_law ((refine step_append_lies _ rfl (.tmp 42) (.tmp 45) 23 rfl base 9 i0 _ 1 16 Tryd.underlying23 HI.out HZ0.out HZ1.out HZ2.out rfl (by omega) pv n (strCells ps) rfl ?_ ⟨W4.heap.size, 0, none⟩ 1 1 [.string tx] rfl rfl ?_ (by simp [Value.oneCell']) (by omega) (by unfold maxLen; omega) (by omega) ?_ (W4.heap.size + 1) ?_ ?_; exact ((HRW.out.alloc _).drew); exact cell_one_new _ _ _; exact hbase0; simp; intro g cap w1 hown hgrow hat hlt1; have hG1 := ((Gr.alloc W4 pv (.cells #[.string tx] 9)).trans (Gr.drew _ _)).trans (Gr.lies (n := n + 1) (cap := cap) hgrow (by simpa using hat)); have hc1w := (World.cell?_of_block (w := W4) (a := ⟨R, 2, none⟩) (hG1.block HLT.out HNE.out)).trans HC.out; have hfzw := (World.frozen?_of_block (w := W4) (a := ⟨R, 2, none⟩) (hG1.block HLT.out HNE.out)).trans HF.out))
  all_goals
    go_end0
    exact ⟨rfl, _, Rd.idStep (W := W3.drew) (W1 := W4) (H2.out.keep (Below.drew (Below.refl _ _))) HR3.out HR2.out hG1 (by rw [← HN.out]; exact hown), (HB4.out.trans (hG1.below HBS.out fun k e => (H2.out.prow.lt k e).1)).setCell H2.out.hR _⟩
end Go.Proofs.YtfjbmenakcnadaaDoor
