/- What is proved: what param does. -/
import Derived.Test.YtfjbmenakcnadaaDoorM4
import Derived.Deep.AppendLies
namespace Go.Proofs.YtfjbmenakcnadaaDoor
open Go.RowKit Go.Shelf Go.WideMaps

theorem str_inj {a b : ByteArray} (h : (Lit.string a.data.toList : Lit) = .string b.data.toList) : a = b := by
  injection h with h
  cases a; cases b
  simp only at h
  congr
  exact Array.ext' h
theorem keyLit (x : ByteArray) (_ : x.size ≤ maxLen) : WideAt.IsKeyLit (.string x.data.toList) := by
  trivial

theorem MapOf.put {W : World} {mb : Nat} {ps : List ByteArray} (h : MapOf W mb ps false) (x : ByteArray) (hx : x.size ≤ maxLen) (hl : ps.length < maxLen) :
    ∃ W', (Instr.mapUpdate 70 (.map (some mb)) (.string x) (.agg #[])).run Tryd.prog W = .ok () W' ∧ MapOf W' mb (ps ++ [x]) false ∧ W.grownBy W' (some mb) := by
  obtain ⟨n, D, h1, h2, h3⟩ := h
  simp only [Bool.false_eq_true, if_false, Nat.add_zero] at h2
  obtain ⟨W', r1, r2, r3⟩ := h1.update keyStr Tryd.underlying70 (by omega) (keyOf_string_mk Tryd.underlying9 hx) (unitElem_mk (H := Unit))
  refine ⟨W', r1, ⟨n + 1, _, r2, by simp; omega, fun y hy => ?_⟩, r3⟩
  by_cases e : y = x
  · subst e
    rw [Go.Maps.has_put_same h1.isMap (keyLit y hx)]
    simp [Mx.has]
  · rw [Go.Maps.has_put_other (fun e' => e (str_inj e')), h3 y hy]
    have : ¬ x = y := fun e' => e e'.symm
    simp [Mx.has, this]
theorem MapOf.putVa {W : World} {mb : Nat} {ps : List ByteArray} (h : MapOf W mb ps false) (hl : ps.length < maxLen) :
    ∃ W', (Instr.mapUpdate 70 (.map (some mb)) (.string Mx.VA) (.agg #[])).run Tryd.prog W = .ok () W' ∧ MapOf W' mb ps true ∧ W.grownBy W' (some mb) := by
  obtain ⟨n, D, h1, h2, h3⟩ := h
  simp only [Bool.false_eq_true, if_false, Nat.add_zero] at h2
  have hx : Mx.VA.size ≤ maxLen := by decide
  obtain ⟨W', r1, r2, r3⟩ := h1.update keyStr Tryd.underlying70 (by omega) (keyOf_string_mk Tryd.underlying9 hx) (unitElem_mk (H := Unit))
  refine ⟨W', r1, ⟨n + 1, _, r2, by simp; omega, fun y hy => ?_⟩, r3⟩
  by_cases e : y = Mx.VA
  · subst e
    rw [Go.Maps.has_put_same h1.isMap (keyLit _ hx)]
    simp
  · rw [Go.Maps.has_put_other (fun e' => e (str_inj e')), h3 y hy]
    simp [e]

section
variable {W W' W1 W2 : World} {base R mb : Nat} {nm : ByteArray} {fn : Bool} {pv pv' bv lv : Value} {ps : List ByteArray} {l : List K}
theorem Lf.grown (h : Lf W base lv l) (hg : W.grownBy W' (some mb)) (hm : base ≤ mb) (hb : base ≤ W.heap.size) : Lf W' base lv l := by
  obtain ⟨g, o, cap, rfl, h1, h2, h4, h3⟩ := h
  exact ⟨g, o, cap, rfl, h1, h2, h4, fun i t ht => (h3 i t ht).kept (hg.block g (by omega) (by simp; omega))⟩
theorem Rd.elStep (h : Rd W base R mb nm fn pv ps false bv lv l) (hg : (W.setCell ⟨R, 3, none⟩ (.bool true)).grownBy W' (some mb)) (hm : MapOf W' mb ps true) : Rd W' base R mb nm fn pv ps true bv lv l := by
  have hR : (W.setCell ⟨R, 3, none⟩ (.bool true)).heap[R]? = some (.cells #[.string nm, .bool fn, pv, .bool true, bv, lv, .map (some mb)] 72 (0, 0)) := by simp [World.setCell, Array.getElem?_modify, h.blk]
  refine ⟨(hg.block R (by simpa using h.ltR) (by simpa using Ne.symm h.ne)).trans hR, h.hR, h.hm, ?_, h.pR, h.pm, h.ne, hm, (h.lf.set h.hR 3 _).grown hg h.hm (by simpa using h.big)⟩
  exact row_heap (ownsRow_setCell_other h.prow h.pR (.bool true)) fun k e => hg.block k (by simpa using (h.prow.lt k e).2) fun e' => h.pm (by rw [e, e'])
theorem Rd.idStep {x : ByteArray} (h : Rd W base R mb nm fn pv ps false bv lv l) (hg : W.grownBy W1 (some mb)) (hm : MapOf W1 mb (ps ++ [x]) false) (hG : Gr W1 W2 pv pv') (hrow : W2.ownsRow base 9 1 pv' (ps.length + 1) (strCells ps ++ [.string x])) :
    Rd (W2.setCell ⟨R, 2, none⟩ pv') base R mb nm fn pv' (ps ++ [x]) false bv lv l := by
  have hR1 : W1.heap[R]? = some (.cells #[.string nm, .bool fn, pv, .bool false, bv, lv, .map (some mb)] 72 (0, 0)) := (hg.block R h.ltR (by simpa using Ne.symm h.ne)).trans h.blk
  have hltR : R < W1.heap.size := (Array.getElem?_eq_some_iff.1 hR1).1
  have hltm : mb < W1.heap.size := by obtain ⟨n, D, h1, _⟩ := hm; exact h1.lt
  have hR2 := (hG.block hltR h.pR).trans hR1
  have hn : ∀ k, k < W1.heap.size → pv.ownBlock ≠ some k → pv'.ownBlock ≠ some k := fun k hk hp e => by
    rcases hG.own k e with e' | e'
    · exact hp e'
    · omega
  have hmW : MapOf W2 mb (ps ++ [x]) false := by
    obtain ⟨n, D, h1, h2⟩ := hm
    refine ⟨n, D, ?_, h2⟩
    obtain ⟨es, clock, hb, F, hs, hD⟩ := h1
    exact ⟨es, clock, (hG.block hltm h.pm).trans hb, F, hs, hD⟩
  have hlf1 := h.lf.grown hg h.hm h.big
  refine ⟨by simp [World.setCell, Array.getElem?_modify, hR2], h.hR, h.hm, ?_, hn R hltR h.pR, hn mb hltm h.pm, h.ne, hmW.set h.ne _, ?_⟩
  · rw [strCells_append, List.length_append]
    exact ownsRow_setCell_other hrow (hn R hltR h.pR) _
  · refine Lf.set (hlf1.keep ?_) h.hR 2 _
    exact hG.below (Nat.le_trans h.big hg.size) fun k e => (h.prow.lt k e).1
end

set_option maxRecDepth 100000 in
set_option maxHeartbeats 4000000 in
theorem param_el (base R mb : Nat) (nm : ByteArray) (fn : Bool) (pv : Value) (ps : List ByteArray) (bv lv : Value) (l : List K) (t : K) (w : World)
    (h : Rd w base R mb nm fn pv ps false bv lv l) (ht : Mx.isP t Mx.EL = true) (hl : ps.length < maxLen) :
    Calls Tryd.prog 85 #[.pointer (some ⟨R, 0, none⟩), kAgg t] w fun e w' => e = .returned (.tuple #[]) ∧ Rd w' base R mb nm fn pv ps true bv lv l ∧ Below base w w' := by
  have key := msign_any t Mx.EL
  rw [ht] at key
  obtain ⟨kind, tx, f, a, b, bl⟩ := t
  dsimp only [kAgg] at key ⊢
  have hB0 : Below w.heap.size w (w.alloc (.cells #[.int .i64 kind, .string tx, .int .i64 f, .int .i64 a, .int .i64 b, .bool bl] 39)) := (Below.refl _ w).alloc (Nat.le_refl _) _
  have hblk := heap_alloc_new w (.cells #[.int .i64 kind, .string tx, .int .i64 f, .int .i64 a, .int .i64 b, .bool bl] 39)
  go_enter Tryd.func85, Tryd.ntmps85
  go_wp2_with fail
  generalize (w.alloc (.cells #[.int .i64 kind, .string tx, .int .i64 f, .int .i64 a, .int .i64 b, .bool bl] 39)) = W at hB0 hblk ⊢
  refine (key _).mono ?_
  rintro e W1 ⟨rfl, hB1⟩
  have hB := Below.then hB0 hB1
  have h1 := h.keep hB
  have c3 := (h1.cell 3).trans rfl
  have c6 := (h1.cell 6).trans rfl
  have f3 := h1.froz 3
  have hR := h1.ltR
  obtain ⟨W2, r1, r2, r3⟩ := MapOf.putVa (W := W1.setCell ⟨R, 3, none⟩ (.bool true)) (h1.mp.set h.ne _) hl
  dsimp only [Mx.VA] at r1
  go_wp2_with fail
  exact bodyPost_ret (results_none rfl _ _ _) rfl ⟨rfl, h1.elStep r3 r2, ((hB.mono h.big).setCell h.hR _).grown r3 (by simpa using h1.big) (by simp; exact h.hm)⟩

set_option maxRecDepth 100000 in
set_option maxHeartbeats 4000000 in
theorem param_bad (base R mb : Nat) (nm : ByteArray) (fn : Bool) (pv : Value) (ps : List ByteArray) (bv lv : Value) (l : List K) (t : K) (w : World)
    (h : Rd w base R mb nm fn pv ps false bv lv l) (ht : Mx.isP t Mx.EL = false) (hp : Mx.parOk ps t = false) (hx : t.text.size ≤ maxLen) :
    Calls Tryd.prog 85 #[.pointer (some ⟨R, 0, none⟩), kAgg t] w (BadPost base 61 w) := by
  have key := msign_any t Mx.EL
  rw [ht] at key
  have kn := fun w1 h1 => known_any base R mb nm fn pv ps false bv lv l t w1 h1 hx
  obtain ⟨kind, tx, f, a, b, bl⟩ := t
  dsimp only [kAgg] at key kn hx ⊢
  have hB0 : Below w.heap.size w (w.alloc (.cells #[.int .i64 kind, .string tx, .int .i64 f, .int .i64 a, .int .i64 b, .bool bl] 39)) := (Below.refl _ w).alloc (Nat.le_refl _) _
  have hblk := heap_alloc_new w (.cells #[.int .i64 kind, .string tx, .int .i64 f, .int .i64 a, .int .i64 b, .bool bl] 39)
  simp only [Mx.parOk, Bool.and_eq_false_iff, beq_eq_false_iff_ne, Bool.not_eq_false', decide_eq_true_iff] at hp
  go_enter Tryd.func85, Tryd.ntmps85
  go_wp2_with fail
  generalize (w.alloc (.cells #[.int .i64 kind, .string tx, .int .i64 f, .int .i64 a, .int .i64 b, .bool bl] 39)) = W at hB0 hblk ⊢
  refine (key _).mono ?_
  rintro e W1 ⟨rfl, hB1⟩
  have hbw := (hB1.block _ (lt_of_cell ((Lib.cell_of_heap hblk 0).trans rfl))).trans hblk
  have hB := Below.then hB0 hB1
  have h1 := h.keep hB
  have e0 := (Lib.cell_of_heap hbw 0).trans rfl
  have e1 := (Lib.cell_of_heap hbw 1).trans rfl
  have e2 := (Lib.cell_of_heap hbw 2).trans rfl
  have e3 := (Lib.cell_of_heap hbw 3).trans rfl
  have e4 := (Lib.cell_of_heap hbw 4).trans rfl
  have e5 := (Lib.cell_of_heap hbw 5).trans rfl
  by_cases hk : kind = 1
  · subst hk
    by_cases hv : tx = Mx.VA
    · have t2 : (tx.toList == [95, 95, 86, 65, 95, 65, 82, 71, 83, 95, 95]) = true := lit_yes hv
      clear hp hv
      go_wp2_with fail
      refine (must_no 61 _).mono ?_
      rintro e w1 ⟨rfl, rfl⟩
      exact ⟨rfl, rfl, hB.mono h.big⟩
    · have t2 : (tx.toList == [95, 95, 86, 65, 95, 65, 82, 71, 83, 95, 95]) = false := lit_no hv
      have hh : Mx.has ps tx = true := by simpa [hv] using hp
      have kn1 := kn _ h1
      rw [show Mx.known ps false ⟨1, tx, f, a, b, bl⟩ = true by simp [Mx.known, hh]] at kn1
      clear hp hv
      go_wp2_with fail
      refine kn1.mono ?_
      rintro e W2 ⟨rfl, hB2⟩
      go_wp2_with fail
      refine (must_no 61 _).mono ?_
      rintro e w1 ⟨rfl, rfl⟩
      exact ⟨rfl, rfl, (Below.then hB hB2).mono h.big⟩
  · have t3 : (kind == 1) = false := by simpa using hk
    clear hp hk
    go_wp2_with fail
    refine (must_no 61 _).mono ?_
    rintro e w1 ⟨rfl, rfl⟩
    exact ⟨rfl, rfl, hB.mono h.big⟩
end Go.Proofs.YtfjbmenakcnadaaDoor
