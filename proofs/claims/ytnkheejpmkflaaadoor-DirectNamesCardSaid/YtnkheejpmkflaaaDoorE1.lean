/- What is proved: what the statements' own first tells of any text: its first line. -/
import Derived.Test.YtnkheejpmkflaaaDoorD8
import Derived.Test.YtnkheejpmkflaaaDoorDz
namespace Go.Proofs.YtnkheejpmkflaaaDoor
open Go.RowKit Go.Shelf

theorem KAt.not_line {W : World} {g o b : Nat} {t : K} {a1 a2 a3 : Int} {ad : Option Addr} {n c : Nat} {T : TypeId} {fz : Nat × Nat} (h : KAt W g o t) (hb : W.heap[b]? = some (.cells #[.int .i64 a1, .int .i64 a2, .int .i64 a3, .slice ad n c] T fz)) : g ≠ b := by
  rintro rfl
  have h1 := h.2.1
  rw [Lib.cell_of_heap hb] at h1
  match o, h1 with
  | 0, h1 => simp at h1
  | 1, h1 => simp at h1
  | 2, h1 => simp at h1
  | k + 3, h1 => simp at h1

/-- Tokens lie as they lay where a line is stored into a block of its own. -/
theorem Ks.stored {W W' : World} {v : Value} {ts : List K} {b : Nat} {a1 a2 a3 : Int} {ad : Option Addr} {n c : Nat} {T : TypeId} {fz : Nat × Nat} (h : Ks W v ts) (hb : W.heap[b]? = some (.cells #[.int .i64 a1, .int .i64 a2, .int .i64 a3, .slice ad n c] T fz))
    (hk : ∀ k, k ≠ b → W'.heap[k]? = W.heap[k]?) : Ks W' v ts := by
  obtain ⟨ad', cap, rfl, h1, h2, h3⟩ := h
  refine ⟨ad', cap, rfl, h1, h2, fun i t ht => ?_⟩
  obtain ⟨g, o, e, cc⟩ := h3 i t ht
  exact ⟨g, o, e, cc.kept (hk g (cc.not_line hb))⟩

/-- A line, its value at hand. -/
def LnPost (w : World) (x : Ln) (e : Ending) (w' : World) : Prop := ∃ ad c, e = .returned (lnAgg x.kind x.first x.n (.slice ad x.toks.length c)) ∧ Ks w' (.slice ad x.toks.length c) x.toks ∧ Below w.heap.size w w'

set_option maxRecDepth 100000 in
set_option maxHeartbeats 4000000 in
theorem lfirst_any (s : ByteArray) (hs : s.size ≤ 100000) (w : World) (hG : Glob w) : Calls Tryd.prog 21 #[.string s] w (LnPost w (Dx.firstLn s)) := by
  have HG := Lib.hid hG
  have hfit := Dx.fit_ks s hs
  have hlen := hfit.len
  have hll := Dx.lines_len (Dx.ks s)
  obtain ⟨ts, hts⟩ : ∃ ts, ts = Dx.ks s := ⟨_, rfl⟩
  rw [← hts] at hlen hll
  have HT := Lib.hid hts
  obtain ⟨X, hX⟩ : ∃ X, X = Dx.firstLn s := ⟨_, rfl⟩
  have hX' := hX
  unfold Dx.firstLn at hX'
  rw [← hts] at hX'
  rw [← hX]
  obtain ⟨ls, hls⟩ : ∃ ls, ls = Dx.lines ts := ⟨_, rfl⟩
  rw [← hls] at hX' hll
  have HX := Lib.hid hX'
  have HLs := Lib.hid hls
  have hB0 : Below w.heap.size w (w.alloc (.cells #[.int .i64 0, .int .i64 0, .int .i64 0, .slice none 0 0] 34)) := (Below.refl _ w).alloc (Nat.le_refl _) _
  clear hG hfit hts hX hX' hls
  go_enter Tryd.func21, Tryd.ntmps21
  go_wp2_with fail
  refine (tokens_any 0 s (by omega) _ (HG.out.later hB0)).mono ?_
  rintro e w1 ⟨v1, rfl, hv1, hB1⟩
  have hk1 : Ks w1 v1 ts := by rw [HT.out]; exact hv1.ks
  have hB1' := Below.then hB0 hB1
  go_wp2_with fail
  refine (lines_any v1 ts _ hk1 (by omega) (HG.out.later hB1')).mono ?_
  rintro e w2 ⟨v2, rfl, hv2, hB2⟩
  rw [← HLs.out] at hv2
  have hB2' := Below.then hB1' hB2
  have hbk : w2.heap[w.heap.size]? = some (.cells #[.int .i64 0, .int .i64 0, .int .i64 0, .slice none 0 0] 34 (0, 0)) :=
    ((hB2.block _ (by have := hB1.size; simp at this; omega)).trans (hB1.block _ (by simp))).trans (heap_alloc_new w _)
  have c0 : w2.cell? ⟨w.heap.size, 0, none⟩ = some (.int .i64 0) := by rw [Lib.cell_of_heap hbk]; rfl
  have c1 : w2.cell? ⟨w.heap.size, 1, none⟩ = some (.int .i64 0) := by rw [Lib.cell_of_heap hbk]; rfl
  have c2 : w2.cell? ⟨w.heap.size, 2, none⟩ = some (.int .i64 0) := by rw [Lib.cell_of_heap hbk]; rfl
  have c3 : w2.cell? ⟨w.heap.size, 3, none⟩ = some (.slice none 0 0) := by rw [Lib.cell_of_heap hbk]; rfl
  have f0 : w2.frozen? ⟨w.heap.size, 0, none⟩ = false := Lib.frozen_of_heap hbk 0
  have f1 : w2.frozen? ⟨w.heap.size, 1, none⟩ = false := Lib.frozen_of_heap hbk 1
  have f2 : w2.frozen? ⟨w.heap.size, 2, none⟩ = false := Lib.frozen_of_heap hbk 2
  have f3 : w2.frozen? ⟨w.heap.size, 3, none⟩ = false := Lib.frozen_of_heap hbk 3
  have HBk := Lib.hid hbk
  have HB2 := Lib.hid hB2'
  obtain ⟨ad, cap, rfl, hc1, hc2, -⟩ := id hv2
  clear hB0 hB1 hB1' hB2 hB2' hbk hk1 hv1
  have hdone : ∀ (x : Ln) (ad' : Option Addr) (c : Nat) (a0 a1 a2 a3 : Value), Ks w2 (.slice ad' x.toks.length c) x.toks →
      Ks ((((w2.setCell ⟨w.heap.size, 0, none⟩ a0).setCell ⟨w.heap.size, 1, none⟩ a1).setCell ⟨w.heap.size, 2, none⟩ a2).setCell ⟨w.heap.size, 3, none⟩ a3) (.slice ad' x.toks.length c) x.toks ∧
      Below w.heap.size w ((((w2.setCell ⟨w.heap.size, 0, none⟩ a0).setCell ⟨w.heap.size, 1, none⟩ a1).setCell ⟨w.heap.size, 2, none⟩ a2).setCell ⟨w.heap.size, 3, none⟩ a3) := fun x ad' c a0 a1 a2 a3 h =>
    ⟨h.stored HBk.out fun k hk => (Below.heap_setCell _ ⟨w.heap.size, 3, none⟩ _ k hk).trans ((Below.heap_setCell _ ⟨w.heap.size, 2, none⟩ _ k hk).trans ((Below.heap_setCell _ ⟨w.heap.size, 1, none⟩ _ k hk).trans (Below.heap_setCell _ ⟨w.heap.size, 0, none⟩ _ k hk))),
     (((HB2.out.setCell (p := ⟨w.heap.size, 0, none⟩) (Nat.le_refl _) _).setCell (p := ⟨w.heap.size, 1, none⟩) (Nat.le_refl _) _).setCell (p := ⟨w.heap.size, 2, none⟩) (Nat.le_refl _) _).setCell (p := ⟨w.heap.size, 3, none⟩) (Nat.le_refl _) _⟩
  have HD := Lib.hid hdone
  clear hdone
  cases ls with
  | nil =>
    clear hv2
    have hx := HX.out
    dsimp only at hx
    subst hx
    go_wp2_with fail
    refine bodyPost_ret (v := lnAgg 0 0 0 (.slice none 0 0)) (by simp [results, Tryd.results21, go_sem, lnAgg, c0, c1, c2, c3]) rfl ?_
    exact ⟨none, 0, rfl, HD.out ⟨0, 0, 0, []⟩ none 0 _ _ _ _ (Ks.none_at _ _ 0 (Nat.zero_le _))⟩
  | cons x r =>
    have hx := HX.out
    dsimp only at hx
    subst hx
    obtain ⟨g, o, rfl, -, -, -, hg, hcell⟩ := hv2.cells (by simp)
    obtain ⟨u, d0, d1, d2, d3, ku⟩ := hcell 0 X rfl
    obtain ⟨adu, cu, rfl, -⟩ := id ku
    simp only [Nat.zero_mul, Nat.add_zero] at d0 d1 d2 d3
    simp only [List.length_cons] at hc1 hll ⊢
    obtain ⟨n, hn⟩ : ∃ n, n = r.length := ⟨_, rfl⟩
    rw [← hn] at hc1 hll ⊢
    have KU := Lib.hid ku
    obtain ⟨m, hm⟩ : ∃ m, m = X.toks.length := ⟨_, rfl⟩
    rw [← hm] at d3
    have Hm := Lib.hid hm
    have z0 : ((n : Int) + 1 == 0) = false := by simp; omega
    clear hv2 hcell hn ku hm
    go_wp2_with fail
    refine bodyPost_ret (v := lnAgg X.kind X.first X.n (.slice adu m cu)) (by simp [results, Tryd.results21, go_sem, lnAgg, c0, c1, c2, c3]) rfl ?_
    refine ⟨adu, cu, by rw [Hm.out], ?_⟩
    exact HD.out X adu cu _ _ _ _ KU.out

theorem target_fit (k f n : Int) (v : Value) (ts : List K) (w : World) (hv : Ks w v ts) (hf : Dx.Fit ts) :
    Calls Tryd.prog 18 #[lnAgg k f n v] w fun e w' => e = .returned (tgtV (Dx.target k ts)) ∧ Below w.heap.size w w' :=
  target_any k f n v ts w hv hf.len hf.2 hf.sizes hf.join
theorem rtarget_fit (k f n : Int) (v : Value) (ts : List K) (w : World) (hv : Ks w v ts) (hf : Dx.Fit ts) :
    Calls Tryd.prog 19 #[lnAgg k f n v] w fun e w' => e = .returned (tgtV (Dx.target k ts)) ∧ Below w.heap.size w w' :=
  rtarget_any k f n v ts w hv hf.len hf.2 hf.sizes hf.join
end Go.Proofs.YtnkheejpmkflaaaDoor
