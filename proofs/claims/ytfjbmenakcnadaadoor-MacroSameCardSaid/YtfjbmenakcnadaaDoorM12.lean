/- What is proved: what Define tells of any tokens. -/
import Derived.Test.YtfjbmenakcnadaaDoorM11
namespace Go.Proofs.YtfjbmenakcnadaaDoor
open Go.RowKit Go.Shelf Go.WideMaps

theorem catch_idle (p : Addr) (w : World) :
    CallsD Tryd.prog 31 #[.pointer (some p)] .returning w fun e u' w' => e = .returned (.tuple #[]) ∧ u' = .returning ∧ w' = w := by
  refine callsD_of_wpS Tryd.func31 rfl fun c₀ cs hu => ?_
  apply wpS_seq
  apply wpS_region
  simp [wpOpsS, go_sem, recoverD, hu, Tryd.ntmps31, Exit.thenS]
  refine wpS_of_wp ?_
  have q : ∀ w : World, (binOp .eql 20 .nilIface .nilIface).run Tryd.prog w = .ok (.bool true) w := fun _ => by kernel_rfl
  go_wp2_with fail
  cases c₀
  simp_all [bodyPostS, results, Tryd.results31]

set_option maxRecDepth 100000 in
set_option maxHeartbeats 1000000 in
theorem catch_thrown (b : Nat) (err x : Int) (older : List PanicEntry) (w : World) (hc : w.cell? ⟨b, 0, none⟩ = some (.int .i64 x)) (hz : w.frozen? ⟨b, 0, none⟩ = false) :
    CallsD Tryd.prog 31 #[.pointer (some ⟨b, 0, none⟩)] (.panicking ({ v := wrongV err, recovered := false } :: older)) w fun e u' w' =>
      e = .returned (.tuple #[]) ∧ u' = .panicking ({ v := wrongV err, recovered := true } :: older) ∧ w' = (w.alloc (.cells #[.int .i64 err] 57)).setCell ⟨b, 0, none⟩ (.int .i64 err) := by
  refine callsD_of_wpS Tryd.func31 rfl fun c₀ cs hu => ?_
  have q : ∀ (v : Value) (w : World), (binOp .eql 20 (.iface 57 v) .nilIface).run Tryd.prog w = .ok (.bool false) w := fun _ _ => by kernel_rfl
  have q2 : ∀ (a : Int) (w : World), (Instr.typeAssert (.iface 57 (.agg #[.int .i64 a])) 20 57 true).run Tryd.prog w = .ok (.tuple #[.agg #[.int .i64 a], .bool true]) w := fun _ _ => by kernel_rfl
  have hlt := lt_of_cell hc
  have hz' : (w.alloc (.cells #[.int .i64 err] 57)).frozen? ⟨b, 0, none⟩ = false := (World.frozen?_of_block (w := w) (a := ⟨b, 0, none⟩) (Below.heap_alloc w _ b hlt)).trans hz
  apply wpS_seq
  apply wpS_region
  simp [wpOpsS, go_sem, recoverD, hu, Tryd.ntmps31, Exit.thenS]
  refine wpS_of_wp ?_
  unfold wrongV
  go_wp2_with fail
  cases c₀
  simp_all [bodyPostS, results, Tryd.results31, wrongV]

def DefPost (w : World) (res : Mx.M × Int) (e : Ending) (w' : World) : Prop := ∃ v, e = .returned (.tuple #[v, .int .i64 res.2]) ∧ Mac w' w.heap.size v res.1 ∧ Below w.heap.size w w'

theorem bodyOf_zero (nm : ByteArray) (fn : Bool) (ps : List ByteArray) (va : Bool) (l : List K) (h : (Mx.bodyOf nm fn ps va l).2 ≠ 0) : (Mx.bodyOf nm fn ps va l).1 = .zero := by
  unfold Mx.bodyOf at *
  split
  · simp_all
  · split
    · rfl
    · split
      · rfl
      · split
        · rfl
        · simp_all
theorem defi_zero (l : List K) (h : (Mx.defi l).2 ≠ 0) : (Mx.defi l).1 = .zero := by
  rcases l with _ | ⟨t, r⟩
  · rfl
  · simp only [Mx.defi] at h ⊢
    by_cases hn : Mx.nameOk t = true
    · rw [if_pos hn] at h ⊢
      cases hb : Mx.brack r with
      | error e => rfl
      | ok x =>
        obtain ⟨fn, ps, va, b⟩ := x
        rw [hb] at h
        exact bodyOf_zero _ _ _ _ _ h
    · rw [if_neg hn]

set_option maxRecDepth 100000 in
set_option maxHeartbeats 2000000 in
theorem define_any (v : Value) (l : List K) (w : World) (hv : Ks w v l) (hx : ∀ t ∈ l, t.text.size ≤ maxLen) (hl : l.length * 56 ≤ 140737488355328) :
    Calls Tryd.prog 14 #[v] w (DefPost w (Mx.defi l)) := by
  have hmf : ∀ (fn : Fn) (first cap : Array Value) (w : World), (Instr.makeFunc fn first cap).run Tryd.prog w = .ok (.func fn first cap) w := fun _ _ _ _ => rfl
  have hz := defi_zero l
  obtain ⟨res, hres⟩ : ∃ res, res = Mx.defi l := ⟨_, rfl⟩
  rw [← hres] at hz ⊢
  have HRES := Lib.hid hres
  have HV := Lib.hid hv
  have HX := Lib.hid hx
  have HL := Lib.hid hl
  have HZ := Lib.hid hz
  obtain ⟨ad, cap, rfl, hc1, hc2, hc3⟩ := id hv
  clear hres hv hx hl hc3 hz
  go_enter_defers Tryd.func14, Tryd.ntmps14
  go_wp2_with fail
  have hB0 : Below w.heap.size w ((w.alloc (.cells #[.string ⟨#[]⟩, .bool false, .slice none 0 0, .bool false, .slice none 0 0] 26)).alloc (.cells #[.int .i64 0] 27)) := ((Below.refl _ w).alloc (Nat.le_refl _) _).alloc (by simp) _
  have hk0 := heap_alloc_new w (.cells #[.string ⟨#[]⟩, .bool false, .slice none 0 0, .bool false, .slice none 0 0] 26)
  replace hk0 := (Below.heap_alloc _ (.cells #[.int .i64 0] 27) _ (lt_of_block hk0)).trans hk0
  have hk1 := heap_alloc_new (w.alloc (.cells #[.string ⟨#[]⟩, .bool false, .slice none 0 0, .bool false, .slice none 0 0] 26)) (.cells #[.int .i64 0] 27)
  simp only [World.size_alloc] at hk1
  generalize (w.alloc (.cells #[.string ⟨#[]⟩, .bool false, .slice none 0 0, .bool false, .slice none 0 0] 26)).alloc (.cells #[.int .i64 0] 27) = W0 at hB0 hk0 hk1 ⊢
  refine (read_any _ l _ (HV.out.below hB0) HX.out HL.out).mono ?_
  rw [← HRES.out]
  rintro e W1 ⟨hB1, ⟨hne, rfl⟩ | ⟨h0, mv, rfl, hmac⟩⟩
  · replace hk0 := (hB1.block _ (lt_of_block hk0)).trans hk0
    replace hk1 := (hB1.block _ (lt_of_block hk1)).trans hk1
    have hB := Below.then hB0 hB1
    have e1 := (Lib.cell_of_heap hk1 0).trans rfl
    refine leaves_cons (f := 31) (args := #[.pointer (some ⟨w.heap.size + 1, 0, none⟩)]) (by simp) (by simp [go_sem]) ?_
    refine (catch_thrown (w.heap.size + 1) res.2 0 [] _ e1 (by simp [World.frozen?, hk1])).mono ?_
    rintro e u' w'' ⟨rfl, rfl, rfl⟩
    have hf0 : ((W1.alloc (.cells #[.int .i64 res.2] 57)).setCell ⟨w.heap.size + 1, 0, none⟩ (.int .i64 res.2)).heap[w.heap.size]? = some (.cells #[.string ⟨#[]⟩, .bool false, .slice none 0 0, .bool false, .slice none 0 0] 26 (0, 0)) := by
      rw [Below.heap_setCell _ _ _ _ (by simp)]
      exact (Below.heap_alloc _ _ _ (lt_of_block hk0)).trans hk0
    have hf1 : ((W1.alloc (.cells #[.int .i64 res.2] 57)).setCell ⟨w.heap.size + 1, 0, none⟩ (.int .i64 res.2)).heap[w.heap.size + 1]? = some (.cells #[.int .i64 res.2] 27 (0, 0)) := by
      have := (Below.heap_alloc W1 (.cells #[.int .i64 res.2] 57) _ (lt_of_block hk1)).trans hk1
      simp [World.setCell, Array.getElem?_modify, this]
    have hBf : Below w.heap.size w ((W1.alloc (.cells #[.int .i64 res.2] 57)).setCell ⟨w.heap.size + 1, 0, none⟩ (.int .i64 res.2)) := (hB.alloc hB.size _).setCell (Nat.le_succ _) _
    generalize (W1.alloc (.cells #[.int .i64 res.2] 57)).setCell ⟨w.heap.size + 1, 0, none⟩ (.int .i64 res.2) = Wf at hf0 hf1 hBf ⊢
    have s0 := (Lib.cell_of_heap hf0 0).trans rfl
    have s1 := (Lib.cell_of_heap hf0 1).trans rfl
    have s2 := (Lib.cell_of_heap hf0 2).trans rfl
    have s3 := (Lib.cell_of_heap hf0 3).trans rfl
    have s4 := (Lib.cell_of_heap hf0 4).trans rfl
    have s5 := (Lib.cell_of_heap hf1 0).trans rfl
    refine ⟨.tuple #[.agg #[.string ⟨#[]⟩, .bool false, .slice none 0 0, .bool false, .slice none 0 0], .int .i64 res.2], by simp [results, Tryd.results14, go_sem, s0, s1, s2, s3, s4, s5], _, rfl, ?_, hBf⟩
    rw [HZ.out hne]
    exact ⟨_, _, rfl, World.ownsRow_nil _ _ _ _, World.ownsRow_nil _ _ _ _⟩
  · obtain ⟨pv, bv, rfl, hp, hb⟩ := hmac
    obtain ⟨pa, pn, pc, rfl⟩ := row_slice hp
    obtain ⟨ba, bn, bc, rfl⟩ := row_slice hb
    have hsz : w.heap.size + 1 < W0.heap.size := lt_of_block hk1
    replace hk0 := (hB1.block _ (lt_of_block hk0)).trans hk0
    replace hk1 := (hB1.block _ (lt_of_block hk1)).trans hk1
    have hB := Below.then hB0 hB1
    have hwl := lt_of_block hk1
    have hwl0 := lt_of_block hk0
    have r0 := (Lib.cell_of_heap hk0 0).trans rfl
    have r1 := (Lib.cell_of_heap hk0 1).trans rfl
    have r2 := (Lib.cell_of_heap hk0 2).trans rfl
    have r3 := (Lib.cell_of_heap hk0 3).trans rfl
    have r4 := (Lib.cell_of_heap hk0 4).trans rfl
    have r5 := (Lib.cell_of_heap hk1 0).trans rfl
    have q0 : ∀ i, W1.frozen? ⟨w.heap.size, i, none⟩ = false := fun i => by simp [World.frozen?, hk0]
    have q1 : W1.frozen? ⟨w.heap.size + 1, 0, none⟩ = false := by simp [World.frozen?, hk1]
    have HP := Lib.hid hp
    have HBd := Lib.hid hb
    have HK0 := Lib.hid hk0
    have HK1 := Lib.hid hk1
    have H0 := Lib.hid h0
    clear hp hb hk0 hk1 h0 hB0 hB1
    go_wp2_with fail
    have hset : ∀ W : World, W.ownsRow W0.heap.size 9 1 (.slice pa pn pc) res.1.ps.length (strCells res.1.ps) → W.ownsRow W0.heap.size 39 6 (.slice ba bn bc) res.1.body.length (ksCells res.1.body) → Below w.heap.size w W → ∀ (b i : Nat) (u : Value), w.heap.size ≤ b → b < W0.heap.size → (W.setCell ⟨b, i, none⟩ u).ownsRow W0.heap.size 9 1 (.slice pa pn pc) res.1.ps.length (strCells res.1.ps) ∧ (W.setCell ⟨b, i, none⟩ u).ownsRow W0.heap.size 39 6 (.slice ba bn bc) res.1.body.length (ksCells res.1.body) ∧ Below w.heap.size w (W.setCell ⟨b, i, none⟩ u) :=
      fun W h1 h2 h3 b i u hb hb' => ⟨ownsRow_setCell_below h1 hb' u, ownsRow_setCell_below h2 hb' u, h3.setCell hb u⟩
    obtain ⟨x1, x2, x3⟩ := hset _ HP.out HBd.out hB w.heap.size 0 (.string res.1.name) (Nat.le_refl _) (by omega)
    obtain ⟨x1, x2, x3⟩ := hset _ x1 x2 x3 w.heap.size 1 (.bool res.1.fn) (Nat.le_refl _) (by omega)
    obtain ⟨x1, x2, x3⟩ := hset _ x1 x2 x3 w.heap.size 2 (.slice pa pn pc) (Nat.le_refl _) (by omega)
    obtain ⟨x1, x2, x3⟩ := hset _ x1 x2 x3 w.heap.size 3 (.bool res.1.va) (Nat.le_refl _) (by omega)
    obtain ⟨x1, x2, x3⟩ := hset _ x1 x2 x3 w.heap.size 4 (.slice ba bn bc) (Nat.le_refl _) (by omega)
    obtain ⟨x1, x2, x3⟩ := hset _ x1 x2 x3 (w.heap.size + 1) 0 (.int .i64 0) (Nat.le_succ _) hsz
    have hf0 : ((((((W1.setCell ⟨w.heap.size, 0, none⟩ (.string res.1.name)).setCell ⟨w.heap.size, 1, none⟩ (.bool res.1.fn)).setCell ⟨w.heap.size, 2, none⟩ (.slice pa pn pc)).setCell ⟨w.heap.size, 3, none⟩ (.bool res.1.va)).setCell ⟨w.heap.size, 4, none⟩ (.slice ba bn bc)).setCell ⟨w.heap.size + 1, 0, none⟩ (.int .i64 0)).heap[w.heap.size]? = some (.cells #[.string res.1.name, .bool res.1.fn, .slice pa pn pc, .bool res.1.va, .slice ba bn bc] 26 (0, 0)) := by
      simp [World.setCell, Array.getElem?_modify, HK0.out]
    have hf1 : ((((((W1.setCell ⟨w.heap.size, 0, none⟩ (.string res.1.name)).setCell ⟨w.heap.size, 1, none⟩ (.bool res.1.fn)).setCell ⟨w.heap.size, 2, none⟩ (.slice pa pn pc)).setCell ⟨w.heap.size, 3, none⟩ (.bool res.1.va)).setCell ⟨w.heap.size, 4, none⟩ (.slice ba bn bc)).setCell ⟨w.heap.size + 1, 0, none⟩ (.int .i64 0)).heap[w.heap.size + 1]? = some (.cells #[.int .i64 0] 27 (0, 0)) := by
      simp [World.setCell, Array.getElem?_modify, HK1.out]
    generalize ((((((W1.setCell ⟨w.heap.size, 0, none⟩ (.string res.1.name)).setCell ⟨w.heap.size, 1, none⟩ (.bool res.1.fn)).setCell ⟨w.heap.size, 2, none⟩ (.slice pa pn pc)).setCell ⟨w.heap.size, 3, none⟩ (.bool res.1.va)).setCell ⟨w.heap.size, 4, none⟩ (.slice ba bn bc)).setCell ⟨w.heap.size + 1, 0, none⟩ (.int .i64 0)) = Wf at x1 x2 x3 hf0 hf1 ⊢
    refine leaves_cons (f := 31) (args := #[.pointer (some ⟨w.heap.size + 1, 0, none⟩)]) (by simp) (by simp [go_sem]) ?_
    refine (catch_idle ⟨w.heap.size + 1, 0, none⟩ _).mono ?_
    rintro e u' w'' ⟨rfl, rfl, rfl⟩
    have s0 := (Lib.cell_of_heap hf0 0).trans rfl
    have s1 := (Lib.cell_of_heap hf0 1).trans rfl
    have s2 := (Lib.cell_of_heap hf0 2).trans rfl
    have s3 := (Lib.cell_of_heap hf0 3).trans rfl
    have s4 := (Lib.cell_of_heap hf0 4).trans rfl
    have s5 := (Lib.cell_of_heap hf1 0).trans rfl
    refine ⟨.tuple #[.agg #[.string res.1.name, .bool res.1.fn, .slice pa pn pc, .bool res.1.va, .slice ba bn bc], .int .i64 0], by simp [results, Tryd.results14, go_sem, s0, s1, s2, s3, s4, s5], _, by rw [H0.out], ⟨_, _, rfl, x1.mono (by omega), x2.mono (by omega)⟩, x3⟩
end Go.Proofs.YtfjbmenakcnadaaDoor
