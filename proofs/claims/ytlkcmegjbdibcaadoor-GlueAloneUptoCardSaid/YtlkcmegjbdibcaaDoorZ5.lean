/- What is proved: the closure of String, that appends each token, its text escaped where it is a Str or a Quote. -/
import Derived.Test.YtlkcmegjbdibcaaDoorZ2
import Derived.Test.YtlkcmegjbdibcaaDoorZ4
namespace Go.Proofs.YtlkcmegjbdibcaaDoor
open Go.RowKit Go.Shelf

theorem six_new0 (w : World) (a b c d e f : Value) (t : TypeId) : ∀ j u, [a, b, c, d, e, f][j]? = some u → (w.alloc (.cells #[a, b, c, d, e, f] t)).cell? ((⟨w.heap.size, 0, none⟩ : Addr).add j) = some u := by
  intro j u hj
  match j, hj with
  | 0, hj => simp at hj; subst hj; simp [Addr.add]
  | 1, hj => simp at hj; subst hj; simp [Addr.add]
  | 2, hj => simp at hj; subst hj; simp [Addr.add]
  | 3, hj => simp at hj; subst hj; simp [Addr.add]
  | 4, hj => simp at hj; subst hj; simp [Addr.add]
  | 5, hj => simp at hj; subst hj; simp [Addr.add]
  | j + 6, hj => simp at hj

/-- A token as it stands in a string. -/
def escK (t : K) : K := ⟨t.kind, ⟨(Gl.wr true t).toArray⟩, t.file, t.fr, t.en, t.bl⟩
theorem row_older {B n m : Nat} {e : TypeId} {sz : Nat} {v : Value} {xs : List Value} {w w' : World} (h : w.ownsRow B e sz v n xs) (hb : Below m w w') (hm : w.heap.size ≤ m) : w'.ownsRow B e sz v n xs := by
  refine ⟨h.1, ?_⟩
  rcases h.2 with h | ⟨g, cap, cur, rfl, hg, hgg, rest⟩
  · exact .inl h
  · exact .inr ⟨g, cap, cur, rfl, hg, (hb.block g (Nat.lt_of_lt_of_le (lt_of_heap hgg) hm)).trans hgg, rest⟩

set_option maxRecDepth 100000 in
set_option maxHeartbeats 4000000 in
theorem gstring1_any (B b : Nat) (acc : List K) (t : K) (w : World) (h : RowB B b acc w) (hl : acc.length ≤ 1000000000) (hG : Glob w) (hx : t.text.size ≤ 400000000) :
    Calls Tryd.prog 22 #[kAgg t, .pointer (some ⟨b, 0, none⟩)] w fun e w' => e = .returned (.tuple #[]) ∧ RowB B b (acc ++ [escK t]) w' ∧ Below B w w' := by
  obtain ⟨i0, hi, hz0, hz1, hz2⟩ := info_parts infoTok
  obtain ⟨TX, hTX⟩ : ∃ TX, TX = (escK t).text := ⟨_, rfl⟩
  have hek : escK t = ⟨t.kind, TX, t.file, t.fr, t.en, t.bl⟩ := by rw [hTX]; rfl
  have hq1 : t.kind = 4 ∨ t.kind = 3 → TX = ⟨(Gl.esc t.text.data.toList).toArray⟩ := fun h => by
    rw [hTX]; unfold escK Gl.wr
    rw [if_pos (by rcases h with h | h <;> simp [h])]
  have hq2 : ¬ (t.kind = 4 ∨ t.kind = 3) → TX = t.text := fun h => by
    rw [hTX]; unfold escK Gl.wr
    rw [if_neg (by simp; exact ⟨fun e => h (.inl e), fun e => h (.inr e)⟩)]
  have HTX := Lib.hid hek
  obtain ⟨v, hbk, hrow, hBb, hne⟩ := h
  obtain ⟨kd, tx, fl, fr, en, bl⟩ := t
  dsimp only at hq1 hq2 hx HTX
  unfold kAgg
  dsimp only
  obtain ⟨va, vm, vc, rfl⟩ := row_form hrow
  obtain ⟨n, hn⟩ : ∃ n, n = acc.length := ⟨_, rfl⟩
  obtain ⟨xs, hxs⟩ : ∃ xs, xs = ksCells acc := ⟨_, rfl⟩
  rw [← hn, ← hxs] at hrow
  rw [← hn] at hl
  have HN := Lib.hid hn
  have HXS := Lib.hid hxs
  have hlt := lt_of_heap hbk
  have hnbx : (Value.slice va vm vc).ownBlock ≠ some w.heap.size := fun e => by have := (hrow.lt _ e).2; omega
  have hAB : Below w.heap.size w (w.alloc (.cells #[.int .i64 kd, .string tx, .int .i64 fl, .int .i64 fr, .int .i64 en, .bool bl] 26)) := (Below.refl _ w).alloc (Nat.le_refl _) _
  have k1 := heap_alloc_new w (.cells #[.int .i64 kd, .string tx, .int .i64 fl, .int .i64 fr, .int .i64 en, .bool bl] 26)
  have hGa := hG.later hAB
  have HNE := Lib.hid hne
  have HROW := Lib.hid hrow
  have HBK := Lib.hid hbk
  have HNX := Lib.hid hnbx
  have HAB := Lib.hid hAB
  have HK1 := Lib.hid k1
  have HGA := Lib.hid hGa
  clear hn hxs hG hek hTX hrow hbk hne hnbx hAB k1 hGa
  by_cases hq : kd = 4 ∨ kd = 3
  · have hT := hq1 hq
    have hb0 : (kd == 4) = true ∨ ((kd == 4) = false ∧ (kd == 3) = true) := by
      by_cases h4 : kd = 4
      · left; simpa using h4
      · right; exact ⟨by simpa using h4, by simpa using hq.resolve_left h4⟩
    have HT := Lib.hid hT
    have HQ := Lib.hid hb0
    clear hq1 hq2 hq hT hb0
    rcases HQ.out with z1 | ⟨z1, z2⟩
    · go_enter Tryd.func22, Tryd.ntmps22
      go_wp2_with fail
      generalize w.alloc (.cells #[.int .i64 kd, .string tx, .int .i64 fl, .int .i64 fr, .int .i64 en, .bool bl] 26) = V at HAB HK1 HGA ⊢
      refine (guarded_any tx V HGA.out hx).mono ?_
      rw [← HT.out]
      rintro e V2 ⟨rfl, hB2⟩
      have k2 := (hB2.block _ (lt_of_block HK1.out)).trans HK1.out
      obtain ⟨x0, x1, x2, x3, x4, x5⟩ := box6_cells k2
      have q0 : ∀ i, V2.frozen? ⟨w.heap.size, i, none⟩ = false := fun i => by simp [World.frozen?, k2]
      have hBV := Below.then HAB.out hB2
      have hBU := (hBV.setCell (p := ⟨w.heap.size, 1, none⟩) (Nat.le_refl _) (.string TX))
      have kU : (V2.setCell ⟨w.heap.size, 1, none⟩ (.string TX)).heap[w.heap.size]? = some (.cells #[.int .i64 kd, .string TX, .int .i64 fl, .int .i64 fr, .int .i64 en, .bool bl] 26 (0, 0)) := by
        simp [World.setCell, Array.getElem?_modify, k2]
      have hbU : (V2.setCell ⟨w.heap.size, 1, none⟩ (.string TX)).heap[b]? = some (.cells #[.slice va vm vc] 22 (0, 0)) := (hBU.block b hlt).trans HBK.out
      have hrU : (V2.setCell ⟨w.heap.size, 1, none⟩ (.string TX)).ownsRow B 26 6 (.slice va vm vc) n xs := row_older HROW.out hBU (Nat.le_refl _)
      have c0 : V2.cell? ⟨b, 0, none⟩ = some (.slice va vm vc) := by rw [Lib.cell_of_heap ((hBV.block b hlt).trans HBK.out)]; rfl
      have HBU := Lib.hid (hBU.mono (show B ≤ w.heap.size by omega))
      have HRU := Lib.hid hrU
      have KB := Lib.hid hbU
      have hus : w.heap.size < V2.heap.size := lt_of_block k2
      have hnw := six_new0 (V2.setCell ⟨w.heap.size, 1, none⟩ (.string TX)) (.int .i64 kd) (.string TX) (.int .i64 fl) (.int .i64 fr) (.int .i64 en) (.bool bl) 26
      rw [show (V2.setCell ⟨w.heap.size, 1, none⟩ (.string TX)).heap.size = V2.heap.size by simp [World.setCell]] at hnw
      have HNW := Lib.hid hnw
      clear hB2 k2 hBV kU hBU hbU hrU hnw
      go_wp2_with (at_builtin; refine wpList_append_own _ rfl _ _ 22 rfl B 26 i0 _ 6 56 Tryd.underlying22 hi hz0 hz1 hz2 rfl (by decide) _ _ _ rfl (HRU.out.alloc _) ⟨V2.heap.size, 0, none⟩ 1 1 [.int .i64 kd, .string TX, .int .i64 fl, .int .i64 fr, .int .i64 en, .bool bl] rfl rfl HNW.out (by simp [Value.oneCell']) (by unfold maxLen; omega) (by omega) (by simp; omega) ?_)
      intro v' w1 hown hgrow _
      obtain ⟨ga, gm, gc, rfl⟩ := row_form hown
      have hb1 : w1.heap[b]? = some (.cells #[.slice va vm vc] 22 (0, 0)) := by
        rw [hgrow.block b (by simp; omega) (fun e => HNE.out e.symm), Below.heap_alloc _ _ _ (by have := lt_of_heap KB.out; omega)]
        exact KB.out
      have d0 : w1.cell? ⟨b, 0, none⟩ = some (.slice va vm vc) := by rw [Lib.cell_of_heap hb1]; rfl
      have f0 : w1.frozen? ⟨b, 0, none⟩ = false := Lib.frozen_of_heap hb1 0
      have hB1 : Below B w w1 := (HBU.out.alloc (by have := HBU.out.size; omega) _).grown hgrow (by simp; omega) (fun k hk => (HRU.out.lt k hk).1)
      have hnb : (Value.slice ga gm gc).ownBlock ≠ some b := by
        intro e
        rcases hown.2 with ⟨e', _⟩ | ⟨g, cap, cur, e', _, hgg, _⟩
        · rw [e'] at e; simp [Value.ownBlock] at e
        · rw [e'] at e
          obtain rfl : g = b := by simpa [Value.ownBlock] using e
          rw [hb1] at hgg
          simp at hgg
      have HOWN := Lib.hid hown
      have HB1 := Lib.hid hB1
      have HBK := Lib.hid hb1
      have HNB := Lib.hid hnb
      clear hown hgrow hB1 hb1 hnb
      go_wp2_with fail
      go_end0
      refine ⟨rfl, ⟨.slice ga gm gc, ?_, ?_, hBb, HNB.out⟩, HB1.out.setCell (p := ⟨b, 0, none⟩) hBb _⟩
      · simp [World.setCell, Array.getElem?_modify, HBK.out]
      · have := HOWN.out.kept (grown_set w1 b 0 (.slice ga gm gc)) (.inr HNB.out)
        rw [HN.out, HXS.out] at this
        rw [ksCells_append, List.length_append, HTX.out]
        exact this
    · go_enter Tryd.func22, Tryd.ntmps22
      go_wp2_with fail
      generalize w.alloc (.cells #[.int .i64 kd, .string tx, .int .i64 fl, .int .i64 fr, .int .i64 en, .bool bl] 26) = V at HAB HK1 HGA ⊢
      refine (guarded_any tx V HGA.out hx).mono ?_
      rw [← HT.out]
      rintro e V2 ⟨rfl, hB2⟩
      have k2 := (hB2.block _ (lt_of_block HK1.out)).trans HK1.out
      obtain ⟨x0, x1, x2, x3, x4, x5⟩ := box6_cells k2
      have q0 : ∀ i, V2.frozen? ⟨w.heap.size, i, none⟩ = false := fun i => by simp [World.frozen?, k2]
      have hBV := Below.then HAB.out hB2
      have hBU := (hBV.setCell (p := ⟨w.heap.size, 1, none⟩) (Nat.le_refl _) (.string TX))
      have kU : (V2.setCell ⟨w.heap.size, 1, none⟩ (.string TX)).heap[w.heap.size]? = some (.cells #[.int .i64 kd, .string TX, .int .i64 fl, .int .i64 fr, .int .i64 en, .bool bl] 26 (0, 0)) := by
        simp [World.setCell, Array.getElem?_modify, k2]
      have hbU : (V2.setCell ⟨w.heap.size, 1, none⟩ (.string TX)).heap[b]? = some (.cells #[.slice va vm vc] 22 (0, 0)) := (hBU.block b hlt).trans HBK.out
      have hrU : (V2.setCell ⟨w.heap.size, 1, none⟩ (.string TX)).ownsRow B 26 6 (.slice va vm vc) n xs := row_older HROW.out hBU (Nat.le_refl _)
      have c0 : V2.cell? ⟨b, 0, none⟩ = some (.slice va vm vc) := by rw [Lib.cell_of_heap ((hBV.block b hlt).trans HBK.out)]; rfl
      have HBU := Lib.hid (hBU.mono (show B ≤ w.heap.size by omega))
      have HRU := Lib.hid hrU
      have KB := Lib.hid hbU
      have hus : w.heap.size < V2.heap.size := lt_of_block k2
      have hnw := six_new0 (V2.setCell ⟨w.heap.size, 1, none⟩ (.string TX)) (.int .i64 kd) (.string TX) (.int .i64 fl) (.int .i64 fr) (.int .i64 en) (.bool bl) 26
      rw [show (V2.setCell ⟨w.heap.size, 1, none⟩ (.string TX)).heap.size = V2.heap.size by simp [World.setCell]] at hnw
      have HNW := Lib.hid hnw
      clear hB2 k2 hBV kU hBU hbU hrU hnw
      go_wp2_with (at_builtin; refine wpList_append_own _ rfl _ _ 22 rfl B 26 i0 _ 6 56 Tryd.underlying22 hi hz0 hz1 hz2 rfl (by decide) _ _ _ rfl (HRU.out.alloc _) ⟨V2.heap.size, 0, none⟩ 1 1 [.int .i64 kd, .string TX, .int .i64 fl, .int .i64 fr, .int .i64 en, .bool bl] rfl rfl HNW.out (by simp [Value.oneCell']) (by unfold maxLen; omega) (by omega) (by simp; omega) ?_)
      intro v' w1 hown hgrow _
      obtain ⟨ga, gm, gc, rfl⟩ := row_form hown
      have hb1 : w1.heap[b]? = some (.cells #[.slice va vm vc] 22 (0, 0)) := by
        rw [hgrow.block b (by simp; omega) (fun e => HNE.out e.symm), Below.heap_alloc _ _ _ (by have := lt_of_heap KB.out; omega)]
        exact KB.out
      have d0 : w1.cell? ⟨b, 0, none⟩ = some (.slice va vm vc) := by rw [Lib.cell_of_heap hb1]; rfl
      have f0 : w1.frozen? ⟨b, 0, none⟩ = false := Lib.frozen_of_heap hb1 0
      have hB1 : Below B w w1 := (HBU.out.alloc (by have := HBU.out.size; omega) _).grown hgrow (by simp; omega) (fun k hk => (HRU.out.lt k hk).1)
      have hnb : (Value.slice ga gm gc).ownBlock ≠ some b := by
        intro e
        rcases hown.2 with ⟨e', _⟩ | ⟨g, cap, cur, e', _, hgg, _⟩
        · rw [e'] at e; simp [Value.ownBlock] at e
        · rw [e'] at e
          obtain rfl : g = b := by simpa [Value.ownBlock] using e
          rw [hb1] at hgg
          simp at hgg
      have HOWN := Lib.hid hown
      have HB1 := Lib.hid hB1
      have HBK := Lib.hid hb1
      have HNB := Lib.hid hnb
      clear hown hgrow hB1 hb1 hnb
      go_wp2_with fail
      go_end0
      refine ⟨rfl, ⟨.slice ga gm gc, ?_, ?_, hBb, HNB.out⟩, HB1.out.setCell (p := ⟨b, 0, none⟩) hBb _⟩
      · simp [World.setCell, Array.getElem?_modify, HBK.out]
      · have := HOWN.out.kept (grown_set w1 b 0 (.slice ga gm gc)) (.inr HNB.out)
        rw [HN.out, HXS.out] at this
        rw [ksCells_append, List.length_append, HTX.out]
        exact this
  · have hT := hq2 hq
    have z1 : (kd == 4) = false := by rw [beq_eq_false_iff_ne]; exact fun h => hq (.inl h)
    have z2 : (kd == 3) = false := by rw [beq_eq_false_iff_ne]; exact fun h => hq (.inr h)
    subst hT
    have hbU : (w.alloc (.cells #[.int .i64 kd, .string TX, .int .i64 fl, .int .i64 fr, .int .i64 en, .bool bl] 26)).heap[b]? = some (.cells #[.slice va vm vc] 22 (0, 0)) := (HAB.out.block b hlt).trans HBK.out
    have c0 : w.cell? ⟨b, 0, none⟩ = some (.slice va vm vc) := by rw [Lib.cell_of_heap HBK.out]; rfl
    have HBU := Lib.hid (HAB.out.mono (show B ≤ w.heap.size by omega))
    have HRU := Lib.hid (HROW.out.alloc (.cells #[.int .i64 kd, .string TX, .int .i64 fl, .int .i64 fr, .int .i64 en, .bool bl] 26))
    have KB := Lib.hid hbU
    have HNW := Lib.hid (six_new w (.cells #[.int .i64 kd, .string TX, .int .i64 fl, .int .i64 fr, .int .i64 en, .bool bl] 26) (.int .i64 kd) (.string TX) (.int .i64 fl) (.int .i64 fr) (.int .i64 en) (.bool bl) 26)
    clear hbU hq1 hq2 hq
    go_enter Tryd.func22, Tryd.ntmps22
    go_wp2_with (at_builtin; refine wpList_append_own _ rfl _ _ 22 rfl B 26 i0 _ 6 56 Tryd.underlying22 hi hz0 hz1 hz2 rfl (by decide) _ _ _ rfl (HRU.out.alloc _) ⟨w.heap.size + 1, 0, none⟩ 1 1 [.int .i64 kd, .string TX, .int .i64 fl, .int .i64 fr, .int .i64 en, .bool bl] rfl rfl HNW.out (by simp [Value.oneCell']) (by unfold maxLen; omega) (by omega) (by simp; omega) ?_)
    intro v' w1 hown hgrow _
    obtain ⟨ga, gm, gc, rfl⟩ := row_form hown
    have hb1 : w1.heap[b]? = some (.cells #[.slice va vm vc] 22 (0, 0)) := by
      rw [hgrow.block b (by simp; omega) (fun e => HNE.out e.symm), Below.heap_alloc _ _ _ (by have := lt_of_heap KB.out; omega)]
      exact KB.out
    have d0 : w1.cell? ⟨b, 0, none⟩ = some (.slice va vm vc) := by rw [Lib.cell_of_heap hb1]; rfl
    have f0 : w1.frozen? ⟨b, 0, none⟩ = false := Lib.frozen_of_heap hb1 0
    have hB1 : Below B w w1 := (HBU.out.alloc (by have := HBU.out.size; omega) _).grown hgrow (by simp; omega) (fun k hk => (HRU.out.lt k hk).1)
    have hnb : (Value.slice ga gm gc).ownBlock ≠ some b := by
      intro e
      rcases hown.2 with ⟨e', _⟩ | ⟨g, cap, cur, e', _, hgg, _⟩
      · rw [e'] at e; simp [Value.ownBlock] at e
      · rw [e'] at e
        obtain rfl : g = b := by simpa [Value.ownBlock] using e
        rw [hb1] at hgg
        simp at hgg
    have HOWN := Lib.hid hown
    have HB1 := Lib.hid hB1
    have HBK := Lib.hid hb1
    have HNB := Lib.hid hnb
    clear hown hgrow hB1 hb1 hnb
    go_wp2_with fail
    go_end0
    refine ⟨rfl, ⟨.slice ga gm gc, ?_, ?_, hBb, HNB.out⟩, HB1.out.setCell (p := ⟨b, 0, none⟩) hBb _⟩
    · simp [World.setCell, Array.getElem?_modify, HBK.out]
    · have := HOWN.out.kept (grown_set w1 b 0 (.slice ga gm gc)) (.inr HNB.out)
      rw [HN.out, HXS.out] at this
      rw [ksCells_append, List.length_append, HTX.out]
      exact this
end Go.Proofs.YtlkcmegjbdibcaaDoor
