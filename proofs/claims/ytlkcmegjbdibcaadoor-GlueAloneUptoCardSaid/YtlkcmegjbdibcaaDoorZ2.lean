/- What is proved: a closure that appends the token that it is handed to a captured slice. -/
import Derived.Test.YtlkcmegjbdibcaaDoorZ1
import Derived.Test.YtlkcmegjbdibcaaDoorSecs
namespace Go.Proofs.YtlkcmegjbdibcaaDoor
open Go.RowKit Go.Shelf

theorem row_form {w : World} {base e sz n : Nat} {v : Value} {xs : List Value} (h : w.ownsRow base e sz v n xs) : ∃ a m c, v = .slice a m c := by
  rcases h.2 with ⟨h', _⟩ | ⟨g, cap, cur, h', _⟩
  · exact ⟨_, _, _, h'⟩
  · exact ⟨_, _, _, h'⟩
theorem six_new (w : World) (o : Obj) (a b c d e f : Value) (t : TypeId) : ∀ j u, [a, b, c, d, e, f][j]? = some u → ((w.alloc o).alloc (.cells #[a, b, c, d, e, f] t)).cell? ((⟨w.heap.size + 1, 0, none⟩ : Addr).add j) = some u := by
  intro j u hj
  have hz : (w.alloc o).heap.size = w.heap.size + 1 := World.size_alloc w o
  rw [← hz]
  generalize w.alloc o = W
  match j, hj with
  | 0, hj => simp at hj; subst hj; simp [Addr.add]
  | 1, hj => simp at hj; subst hj; simp [Addr.add]
  | 2, hj => simp at hj; subst hj; simp [Addr.add]
  | 3, hj => simp at hj; subst hj; simp [Addr.add]
  | 4, hj => simp at hj; subst hj; simp [Addr.add]
  | 5, hj => simp at hj; subst hj; simp [Addr.add]
  | j + 6, hj => simp at hj
theorem grown_set (w : World) (b o : Nat) (v : Value) : w.grownBy (w.setCell ⟨b, o, none⟩ v) (some b) :=
  ⟨rfl, rfl, rfl, by simp, fun k _ hne => heap_setCell_other w ⟨b, o, none⟩ k v (fun e => hne (by rw [e]))⟩

/-- Block b holds a slice of tokens, in a row of its own that lies from block B on. -/
def RowB (B b : Nat) (acc : List K) (w : World) : Prop := ∃ v, w.heap[b]? = some (.cells #[v] 22 (0, 0)) ∧ w.ownsRow B 26 6 v acc.length (ksCells acc) ∧ B ≤ b ∧ v.ownBlock ≠ some b
theorem RowB.new (w : World) : RowB w.heap.size w.heap.size [] (w.alloc (.cells #[.slice none 0 0] 22)) :=
  ⟨.slice none 0 0, heap_alloc_new w _, World.ownsRow_nil _ _ _ _, Nat.le_refl _, by simp [Value.ownBlock]⟩
theorem RowB.alloc {B b : Nat} {acc : List K} {w : World} (h : RowB B b acc w) (o : Obj) : RowB B b acc (w.alloc o) := by
  obtain ⟨v, h1, h2, h3, h4⟩ := h
  exact ⟨v, (Below.heap_alloc _ o _ (lt_of_heap h1)).trans h1, h2.alloc o, h3, h4⟩
theorem RowB.lt {B b : Nat} {acc : List K} {w : World} (h : RowB B b acc w) : b < w.heap.size := by
  obtain ⟨v, h1, _⟩ := h; exact lt_of_heap h1
/-- A cell of another block, that is younger, is written. -/
theorem RowB.below {B b n : Nat} {acc : List K} {w w' : World} (h : RowB B b acc w) (hb : Below n w w') (hn : w.heap.size ≤ n) : RowB B b acc w' := by
  obtain ⟨v, h1, h2, h3, h4⟩ := h
  refine ⟨v, (hb.block b (Nat.lt_of_lt_of_le (lt_of_heap h1) hn)).trans h1, ⟨h2.1, ?_⟩, h3, h4⟩
  rcases h2.2 with h | ⟨g, cap, cur, rfl, hg, hgg, rest⟩
  · exact .inl h
  · exact .inr ⟨g, cap, cur, rfl, hg, (hb.block g (Nat.lt_of_lt_of_le (lt_of_heap hgg) hn)).trans hgg, rest⟩
theorem RowB.ks {B b : Nat} {acc : List K} {w : World} (h : RowB B b acc w) : ∃ v, w.cell? ⟨b, 0, none⟩ = some v ∧ Ks w v acc := by
  obtain ⟨v, h1, h2, _⟩ := h
  exact ⟨v, by rw [Lib.cell_of_heap h1]; rfl, Ks.of_row h2⟩

set_option maxRecDepth 100000 in
set_option maxHeartbeats 2000000 in
theorem gtext1_any (B b : Nat) (acc : List K) (t : K) (w : World) (h : RowB B b acc w) (hl : acc.length ≤ 1000000000) :
    Calls Tryd.prog 20 #[kAgg t, .pointer (some ⟨b, 0, none⟩)] w fun e w' => e = .returned (.tuple #[]) ∧ RowB B b (acc ++ [t]) w' ∧ Below B w w' := by
  obtain ⟨i0, hi, hz0, hz1, hz2⟩ := info_parts infoTok
  obtain ⟨v, hbk, hrow, hBb, hne⟩ := h
  obtain ⟨kd, tx, fl, fr, en, bl⟩ := t
  unfold kAgg
  dsimp only
  have hlt := lt_of_heap hbk
  obtain ⟨va, vm, vc, rfl⟩ := row_form hrow
  obtain ⟨n, hn⟩ : ∃ n, n = acc.length := ⟨_, rfl⟩
  obtain ⟨xs, hxs⟩ : ∃ xs, xs = ksCells acc := ⟨_, rfl⟩
  rw [← hn, ← hxs] at hrow
  rw [← hn] at hl
  have c0 : w.cell? ⟨b, 0, none⟩ = some (.slice va vm vc) := by rw [Lib.cell_of_heap hbk]; rfl
  have HR := Lib.hid hrow
  have HK := Lib.hid hbk
  have HNE := Lib.hid hne
  have HN := Lib.hid hn
  have HXS := Lib.hid hxs
  clear hrow hbk hne hn hxs
  go_enter Tryd.func20, Tryd.ntmps20
  go_wp2_with (at_builtin; refine wpList_append_own _ rfl _ _ 22 rfl B 26 i0 _ 6 56 Tryd.underlying22 hi hz0 hz1 hz2 rfl (by decide) _ _ _ rfl ((HR.out.alloc _).alloc _) ⟨w.heap.size + 1, 0, none⟩ 1 1 [.int .i64 kd, .string tx, .int .i64 fl, .int .i64 fr, .int .i64 en, .bool bl] rfl rfl (six_new _ _ _ _ _ _ _ _ _) (by simp [Value.oneCell']) (by unfold maxLen; omega) (by omega) (by simp; omega) ?_)
  intro v' w1 hown hgrow _
  obtain ⟨ga, gm, gc, rfl⟩ := row_form hown
  have hb1 : w1.heap[b]? = some (.cells #[.slice va vm vc] 22 (0, 0)) := by
    rw [hgrow.block b (by simp; omega) (fun e => HNE.out e.symm), Below.heap_alloc _ _ _ (by simp; omega), Below.heap_alloc _ _ _ hlt]
    exact HK.out
  have d0 : w1.cell? ⟨b, 0, none⟩ = some (.slice va vm vc) := by rw [Lib.cell_of_heap hb1]; rfl
  have f0 : w1.frozen? ⟨b, 0, none⟩ = false := Lib.frozen_of_heap hb1 0
  have hB1 : Below B w w1 := (((Below.refl B w).alloc (by omega) _).alloc (by simp; omega) _).grown hgrow (by simp; omega) (fun k hk => (HR.out.lt k hk).1)
  have hnb : (Value.slice ga gm gc).ownBlock ≠ some b := by
    intro e
    rcases hown.2 with ⟨e', _⟩ | ⟨g, cap, cur, e', _, hgg, _⟩
    · rw [e'] at e; simp [Value.ownBlock] at e
    · rw [e'] at e
      obtain rfl : g = b := by simpa [Value.ownBlock] using e
      rw [hb1] at hgg
      simp at hgg
  have HOWN := Lib.hid hown
  have HB1 := Lib.hid hB1
  have HBK := Lib.hid hb1
  have HNB := Lib.hid hnb
  clear hown hgrow hB1 hb1 hnb
  go_wp2_with fail
  go_end0
  refine ⟨rfl, ⟨.slice ga gm gc, ?_, ?_, hBb, HNB.out⟩, HB1.out.setCell (p := ⟨b, 0, none⟩) hBb _⟩
  · simp [World.setCell, Array.getElem?_modify, HBK.out]
  · have := HOWN.out.kept (grown_set w1 b 0 (.slice ga gm gc)) (.inr HNB.out)
    rw [HN.out, HXS.out] at this
    rw [ksCells_append, List.length_append]
    exact this
end Go.Proofs.YtlkcmegjbdibcaaDoor
