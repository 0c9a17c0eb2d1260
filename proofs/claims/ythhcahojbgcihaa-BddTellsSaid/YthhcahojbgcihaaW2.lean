/- What is proved: what New, split and decide of package bdd come to. -/
import Derived.Test.YthhcahojbgcihaaW1
import Derived.Test.YthhcahojbgcihaaPure2
import Derived.Deep.RegionLaw
import Derived.StillTailTactics
import Derived.Maps.AppendAt
import Derived.OwnWalk
namespace Go.Proofs.Ythhcahojbgcihaa
open Go.RowKit Bd

section
variable {w : World} {B p m vars : Nat} {sv : Value} {ds : List Dec}

theorem below_drewN {B : Nat} {a w : World} (h : Below B a w) (n : Nat) : Below B a (w.drewN n) := ⟨h.os, h.tape, h.output, h.size, h.block⟩

theorem Nodes.new1 (w : World) (n : Int) : Nodes (w.alloc (.cells #[.int .i64 n] 35)) w.heap.size 1 (fun _ => n) := by
  refine ⟨by simp, fun i hi => ?_⟩
  obtain rfl : i = 0 := by omega
  simp [go_sem]



set_option maxHeartbeats 400000 in
theorem split_any (h : Ar w B p m sv vars ds) (n name : Nat) (hn : n < ds.length + 2) (hname : name < 8) :
    Calls Try.prog 50 #[.pointer (some ⟨p, 0, none⟩), .int .i64 (n : Int), .int .i64 (name : Int)] w fun e w' => e = .returned (.tuple #[.int .i64 ((splitOf ds n name).1 : Int), .int .i64 ((splitOf ds n name).2 : Int)]) ∧ Below w.heap.size w w' := by
  have hA := h.alloc (.cells #[.int .i64 (n : Int)] 35)
  have hN := Nodes.new1 w (n : Int)
  have hT := top_any hA w.heap.size 1 1 (fun _ => n) (by omega) hN (fun _ _ => hn)
  have HT := Lib.hid hT
  have HN := Lib.hid hN
  clear hT hN
  have hv8 := h.v8
  have ht8 := top_le h.wf hn
  by_cases ht : top ds n = name + 1
  · have h2 : 2 ≤ n := by unfold top at ht; split at ht <;> omega
    have hs : splitOf ds n name = (dec ds n).2 := if_pos ht
    have HS := Lib.hid hs
    have HTT := Lib.hid ht
    clear hs ht
    go_enter Try.func50, Try.ntmps50
    go_wp2_with fail
    refine (HT.out).mono ?_
    rintro e w1 ⟨rfl, hb1⟩
    have : (tops ds (fun _ => n) 1 : Int) - 1 = name := by simp [tops, HTT.out]
    rw [this]
    clear this
    have hA1 := hA.below hb1
    go_wp2_with fail
    refine (decision_any hA1 n h2 hn).mono ?_
    rintro e w2 ⟨rfl, hb2⟩
    unfold keyOf
    go_wp2_with fail
    go_quiet (fail)
    go_wp2_with fail
    go_ret2
    refine ⟨by rw [HS.out]; rfl, ?_⟩
    have b0 : Below w.heap.size w (w.alloc (.cells #[.int .i64 (n : Int)] 35)) := (Below.refl _ _).alloc (Nat.le_refl _) _
    have b1 := b0.trans (hb1.mono (by simp))
    have b2 := b1.trans (hb2.mono b1.size)
    exact below_drewN (b2.alloc b2.size _) _
  · have hs : splitOf ds n name = (n, n) := if_neg ht
    have HS := Lib.hid hs
    have hne : ((top ds n : Int) - 1 != (name : Int)) = true := by rw [bne_iff_ne]; omega
    clear hs ht
    go_enter Try.func50, Try.ntmps50
    go_wp2_with fail
    refine (HT.out).mono ?_
    rintro e w1 ⟨rfl, hb1⟩
    have : (tops ds (fun _ => n) 1 : Int) - 1 = (top ds n : Int) - 1 := by simp [tops]
    rw [this]
    clear this
    go_wp2_with fail
    go_ret2
    exact ⟨by rw [HS.out]; rfl, ((Below.refl _ _).alloc (Nat.le_refl _) _).trans (hb1.mono (by simp))⟩

set_option maxHeartbeats 400000 in
theorem new_yes (v : Nat) (hv : v ≤ 8) (w : World) : Calls Try.prog 19 #[.int .i64 (v : Int)] w fun e w' =>
    e = .returned (.tuple #[.pointer (some ⟨w.heap.size + 1, 0, none⟩), .int .i64 0]) ∧ Ar w' w.heap.size (w.heap.size + 1) w.heap.size (.slice none 0 0) v [] ∧ Below w.heap.size w w' := by
  have hmm := @run_makeMap Try.prog
  go_enter Try.func19, Try.ntmps19
  go_wp2
  go_ret2
  refine ⟨rfl, ?_, ((Below.refl _ _).alloc (Nat.le_refl _) _).alloc (by simp) _⟩
  refine ⟨?_, World.ownsRow_nil _ _ _ _, ?_, by omega, by omega, hv, wf_nil v, by simp⟩
  · have := heap_alloc_new (w.alloc (.map #[] 0)) (.cells #[.int .i64 (v : Int), .slice none 0 0, .map (some w.heap.size)] 75)
    simpa using this
  · rw [Below.heap_alloc _ _ _ (by simp)]
    exact heap_alloc_new _ _

set_option maxHeartbeats 400000 in
theorem new_no (v : Int) (hv : v < 0 ∨ 8 < v) (w : World) : Calls Try.prog 19 #[.int .i64 v] w fun e w' => e = .returned (.tuple #[.pointer none, .int .i64 1]) ∧ w = w' := by
  rcases hv with hv | hv
  · go_enter Try.func19, Try.ntmps19
    go_wp2
    go_ret2
    exact ⟨rfl, rfl⟩
  · have h0 : 0 ≤ v := by omega
    go_enter Try.func19, Try.ntmps19
    go_wp2
    go_ret2
    exact ⟨rfl, rfl⟩

set_option maxHeartbeats 400000 in
theorem decide_same (w : World) (p : Nat) (d : Dec) (he : d.2.1 = d.2.2) :
    Calls Try.prog 37 #[.pointer (some ⟨p, 0, none⟩), keyOf d] w fun e w' => e = .returned (.int .i64 (d.2.2 : Int)) ∧ Below w.heap.size w w' := by
  obtain ⟨a, b, c⟩ := d
  simp only at he
  subst he
  unfold keyOf
  go_enter Try.func37, Try.ntmps37
  go_wp2
  go_ret
  exact ⟨rfl, (Below.refl _ _).alloc (Nat.le_refl _) _⟩

set_option maxHeartbeats 400000 in
theorem decide_found (h : Ar w B p m sv vars ds) (d : Dec) (hne : d.2.1 ≠ d.2.2) (i : Nat) (hi : ds.findIdx? (fun x => decide (x = d)) = some i) :
    Calls Try.prog 37 #[.pointer (some ⟨p, 0, none⟩), keyOf d] w fun e w' => e = .returned (.int .i64 ((i : Int) + 2)) ∧ Below w.heap.size w w' := by
  have hrun : ∀ W : World, W.heap[m]? = w.heap[m]? → (Instr.lookup 72 (.map (some m)) (keyOf d) true).run Try.prog W = .ok (.tuple #[.int .i64 ((i : Int) + 2), .bool true]) W := by
    intro W hW
    have := run_lookup72 d ds _ m W (hW.trans h.map)
    rw [hi] at this
    exact this
  have hml := lt_of_get h.map
  have hpl := lt_of_get h.blk
  have c2 := h.c2
  obtain ⟨a, b, c⟩ := d
  unfold keyOf at hrun ⊢
  simp only at hne hrun
  have hbc : ((b : Int) == (c : Int)) = false := beq_eq_false_iff_ne.2 (by omega)
  clear hne hi
  have hrun1 := fun k => hrun ((w.alloc (.cells #[.int .i64 (a : Int), .int .i64 (b : Int), .int .i64 (c : Int)] 67)).drewN k) (Below.heap_alloc _ _ _ hml)
  clear hrun
  go_enter Try.func37, Try.ntmps37
  go_wp2
  go_quiet (fail)
  go_wp2_with fail
  go_ret
  exact ⟨rfl, below_drewN ((Below.refl _ _).alloc (Nat.le_refl _) _) _⟩

theorem news3 (W : World) (x y z : Value) (t : TypeId) : ∀ j u, [x, y, z][j]? = some u → ((W.alloc (.cells #[x, y, z] t)).drew).cell? ((⟨W.heap.size, 0, none⟩ : Addr).add j) = some u := by
  intro j u hu
  have hlt : j < 3 := by
    rcases Nat.lt_or_ge j 3 with h | h
    · exact h
    · rw [List.getElem?_eq_none (by simpa using h)] at hu; cases hu
  have e : ((W.alloc (.cells #[x, y, z] t)).drew).heap[W.heap.size]? = some (.cells #[x, y, z] t) := heap_alloc_new _ _
  match j, hlt with
  | 0, _ => exact (cell_of_row _ _ _ _ _ _ e).trans (by simpa using hu)
  | 1, _ => exact (cell_of_row _ _ _ _ _ _ e).trans (by simpa using hu)
  | 2, _ => exact (cell_of_row _ _ _ _ _ _ e).trans (by simpa using hu)

theorem Ar.own_p (h : Ar w B p m sv vars ds) : some p ≠ sv.ownBlock := by
  rcases h.row.2 with ⟨rfl, _⟩ | ⟨g, cap, cur, rfl, _, hh, _⟩
  · simp [Value.ownBlock]
  · intro e
    have : p = g := by simpa [Value.ownBlock] using e
    subst this
    have := h.blk
    rw [hh] at this
    cases this
theorem Ar.own_m (h : Ar w B p m sv vars ds) : some m ≠ sv.ownBlock := by
  rcases h.row.2 with ⟨rfl, _⟩ | ⟨g, cap, cur, rfl, _, hh, _⟩
  · simp [Value.ownBlock]
  · intro e
    have : m = g := by simpa [Value.ownBlock] using e
    subst this
    have := h.map
    rw [hh] at this
    cases this
theorem Ar.grown_p {w1 : World} (h : Ar w B p m sv vars ds) (hg : w.grownBy w1 sv.ownBlock) : w1.cell? ⟨p, 1, none⟩ = some sv ∧ w1.frozen? ⟨p, 1, none⟩ = false := by
  have e := hg.block p (lt_of_get h.blk) h.own_p
  exact ⟨(World.cell?_of_block (w := w) (a := ⟨p, 1, none⟩) e).trans h.c1, (World.frozen?_of_block (w := w) (a := ⟨p, 1, none⟩) e).trans (h.fz 1)⟩

/-- Behind the append and the store of the slice, ahead of the map's store. -/
structure Mid (w W2 : World) (B p m : Nat) (sv v' : Value) (vars : Nat) (ds : List Dec) (d : Dec) : Prop where
  blk : W2.heap[p]? = some (.cells #[.int .i64 (vars : Int), v', .map (some m)] 75 (0, 0))
  map : W2.heap[m]? = some (.map (entriesOf ds) ds.length)
  row : W2.ownsRow B 67 3 v' (ds ++ [d]).length (cellsOf (ds ++ [d]))
  box : W2.heap[w.heap.size]? = some (.cells #[.int .i64 (d.1 : Int), .int .i64 (d.2.1 : Int), .int .i64 (d.2.2 : Int)] 67)
  fr : Fr p m sv w v' W2

theorem Mid.make {W w1 : World} {d : Dec} {g cap : Nat} {o : Obj} (h : Ar w B p m sv vars ds) (hW : Below w.heap.size w W)
    (hbox : W.heap[w.heap.size]? = some (.cells #[.int .i64 (d.1 : Int), .int .i64 (d.2.1 : Int), .int .i64 (d.2.2 : Int)] 67))
    (hown : w1.ownsRow B 67 3 (.slice (some ⟨g, 0, none⟩) (ds.length + 1) cap) (ds.length + 1) (cellsOf ds ++ [.int .i64 (d.1 : Int), .int .i64 (d.2.1 : Int), .int .i64 (d.2.2 : Int)]))
    (hgrow : ((W.alloc o).drew).grownBy w1 sv.ownBlock) (hat : sv.ownBlock = some g ∨ g = W.heap.size + 1) :
    Mid w (w1.setCell ⟨p, 1, none⟩ (.slice (some ⟨g, 0, none⟩) (ds.length + 1) cap)) B p m sv (.slice (some ⟨g, 0, none⟩) (ds.length + 1) cap) vars ds d := by
  have hA := (h.below hW)
  have hA1 := (hA.alloc o).drew
  have hpl := lt_of_get h.blk
  have hWs := hW.size
  have hbp : w1.heap[p]? = some (.cells #[.int .i64 (vars : Int), sv, .map (some m)] 75 (0, 0)) := (hgrow.block p (lt_of_get hA1.blk) hA1.own_p).trans hA1.blk
  have hbm : w1.heap[m]? = some (.map (entriesOf ds) ds.length) := (hgrow.block m (lt_of_get hA1.map) hA1.own_m).trans hA1.map
  have hnb : some w.heap.size ≠ sv.ownBlock := by
    intro e
    have := (h.row.lt _ e.symm).2
    omega
  have hbl := lt_of_get hbox
  have hbb : w1.heap[w.heap.size]? = some (.cells #[.int .i64 (d.1 : Int), .int .i64 (d.2.1 : Int), .int .i64 (d.2.2 : Int)] 67) :=
    (hgrow.block _ (by simp; omega) hnb).trans ((Below.heap_alloc W o _ hbl).trans hbox)
  have hgp : p ≠ g := by
    rintro rfl
    rcases hown.2 with ⟨e, _⟩ | ⟨g', cap', cur, e, _, hh, _⟩
    · cases e
    · injection e with e1 _ _
      injection e1 with e1
      injection e1 with e1 _ _
      subst e1
      rw [hbp] at hh
      cases hh
  refine ⟨?_, ?_, ?_, ?_, ?_⟩
  · simp [World.setCell, Array.getElem?_modify, hbp]
  · rw [Below.heap_setCell _ _ _ _ (by simpa using h.pm.symm)]; exact hbm
  · rw [cellsOf_append, List.length_append]
    refine ⟨hown.1, ?_⟩
    rcases hown.2 with ⟨e, _⟩ | ⟨g', cap', cur, e, hg', hh, r⟩
    · cases e
    · refine .inr ⟨g', cap', cur, e, hg', ?_, r⟩
      injection e with e1 _ _
      injection e1 with e1
      injection e1 with e1 _ _
      subst e1
      rw [Below.heap_setCell _ _ _ _ (by simpa using hgp.symm)]
      exact hh
  · rw [Below.heap_setCell _ _ _ _ (by simp; omega)]; exact hbb
  · refine ⟨hgrow.os.trans hW.os, hgrow.tape.trans hW.tape, hgrow.output.trans hW.output, ?_, fun k hk h1 h2 h3 => ?_, ?_⟩
    · have := hgrow.size
      simp [World.setCell] at this ⊢
      omega
    · rw [Below.heap_setCell _ _ _ _ (by simpa using h1)]
      refine (hgrow.block k (by simp; omega) (fun e => h3 e.symm)).trans ?_
      exact (Below.heap_alloc W o _ (by omega)).trans (hW.block k hk)
    · rcases hat with e | e
      · exact .inl e.symm
      · right
        intro k hk
        have : g = k := by simpa [Value.ownBlock] using hk
        omega

theorem Mid.done {W2 : World} {v' : Value} {d : Dec} (h : Ar w B p m sv vars ds) (M : Mid w W2 B p m sv v' vars ds d) (hwf : WF vars (ds ++ [d])) (hfew : ds.length < 100000) :
    Ar (setB W2 m (.map (entriesOf (ds ++ [d])) (ds.length + 1))) B p m v' vars (ds ++ [d]) ∧ Fr p m sv w v' (setB W2 m (.map (entriesOf (ds ++ [d])) (ds.length + 1))) := by
  have hne := h.pm
  refine ⟨⟨?_, ?_, by rw [List.length_append]; exact setB_same _ (lt_of_get M.map), h.hp, h.hm, h.v8, hwf, by simp; omega⟩, ?_⟩
  · rw [setB_other _ _ hne]; exact M.blk
  · refine ⟨M.row.1, ?_⟩
    rcases M.row.2 with h0 | ⟨g, cap, cur, hv, hg, hh, r⟩
    · exact .inl h0
    · refine .inr ⟨g, cap, cur, hv, hg, ?_, r⟩
      rw [setB_other]
      · exact hh
      · rintro rfl
        rw [M.map] at hh
        cases hh
  · refine ⟨M.fr.os, M.fr.tape, M.fr.output, by rw [setB_size]; exact M.fr.size, fun k hk h1 h2 h3 => ?_, M.fr.own⟩
    rw [setB_other _ _ h2]
    exact M.fr.blk k hk h1 h2 h3

/-- What a call comes to that makes condition r: the arena goes on to ds'; nothing else has turned. -/
def Gives (w : World) (B p m : Nat) (sv : Value) (vars r : Nat) (ds' : List Dec) (e : Ending) (w' : World) : Prop :=
  e = .returned (.int .i64 (r : Int)) ∧ ∃ sv', Ar w' B p m sv' vars ds' ∧ Fr p m sv w sv' w'

theorem ret_int {a b : Int} (h : a = b) : Ending.returned (.int .i64 a) = .returned (.int .i64 b) := by rw [h]

theorem info67 : ∃ i, Try.prog.info? 67 = some i ∧ i.zero = some (.agg #[.int .i64 0, .int .i64 0, .int .i64 0]) ∧ i.size = 3 ∧ i.bytes = 24 := ⟨_, rfl, by kernel_rfl, by kernel_rfl, by kernel_rfl⟩

set_option maxHeartbeats 1000000 in
theorem decide_new (h : Ar w B p m sv vars ds) (d : Dec) (hne : d.2.1 ≠ d.2.2) (hi : ds.findIdx? (fun x => decide (x = d)) = none) (hfew : ds.length < 100000) (hwf : WF vars (ds ++ [d])) :
    Calls Try.prog 37 #[.pointer (some ⟨p, 0, none⟩), keyOf d] w (Gives w B p m sv vars (ds.length + 2) (ds ++ [d])) := by
  have hrun : ∀ W : World, W.heap[m]? = w.heap[m]? → (Instr.lookup 72 (.map (some m)) (keyOf d) true).run Try.prog W = .ok (.tuple #[.int .i64 0, .bool false]) W := by
    intro W hW
    have := run_lookup72 d ds _ m W (hW.trans h.map)
    rw [hi] at this
    exact this
  have hml := lt_of_get h.map
  have hpl := lt_of_get h.blk
  have c1 := h.c1
  have c2 := h.c2
  have fz := h.fz 1
  obtain ⟨a, b, c⟩ := d
  unfold keyOf at hrun ⊢
  simp only at hne hrun
  have hbc : ((b : Int) == (c : Int)) = false := beq_eq_false_iff_ne.2 (by omega)
  clear hne
  have hrun1 := fun k => hrun ((w.alloc (.cells #[.int .i64 (a : Int), .int .i64 (b : Int), .int .i64 (c : Int)] 67)).drewN k) (Below.heap_alloc _ _ _ hml)
  clear hrun
  obtain ⟨A, cp, hsv⟩ := h.form
  have HSV := Lib.hid hsv
  subst hsv
  go_enter Try.func37, Try.ntmps37
  go_wp2
  go_quiet (fail)
  go_wp2_with fail
  have hW : Below w.heap.size w ((w.alloc (.cells #[.int .i64 (a : Int), .int .i64 (b : Int), .int .i64 (c : Int)] 67)).drewN nq) := below_drewN ((Below.refl _ _).alloc (Nat.le_refl _) _) _
  have hbox : ((w.alloc (.cells #[.int .i64 (a : Int), .int .i64 (b : Int), .int .i64 (c : Int)] 67)).drewN nq).heap[w.heap.size]? = some (.cells #[.int .i64 (a : Int), .int .i64 (b : Int), .int .i64 (c : Int)] 67) := heap_alloc_new _ _
  generalize ((w.alloc (.cells #[.int .i64 (a : Int), .int .i64 (b : Int), .int .i64 (c : Int)] 67)).drewN nq) = W at hW hbox ⊢
  have hAW := h.below hW
  have c1' := hAW.c1
  have fz' := hAW.fz 1
  have hpl' := lt_of_get hAW.blk
  have hbl := lt_of_get hbox
  have b0 : W.cell? ⟨w.heap.size, 0, none⟩ = some (.int .i64 (a : Int)) := by simp [World.cell?, hbox]
  have b1 : W.cell? ⟨w.heap.size, 1, none⟩ = some (.int .i64 (b : Int)) := by simp [World.cell?, hbox]
  have b2 : W.cell? ⟨w.heap.size, 2, none⟩ = some (.int .i64 (c : Int)) := by simp [World.cell?, hbox]
  obtain ⟨ti, hti, htz, hts, htb⟩ := info67
  have HTI := Lib.hid hti
  have HTZ := Lib.hid htz
  have HTS := Lib.hid hts
  have HTB := Lib.hid htb
  clear hti htz hts htb
  have HBOX := Lib.hid hbox
  have HI := Lib.hid hi
  clear hbox c1 c2 fz hrun1 hbc hi HSV
  have h1c : ∀ u ∈ [Value.int .i64 (a : Int), .int .i64 (b : Int), .int .i64 (c : Int)], u.oneCell' = true := by simp [Value.oneCell']
  have H1C := Lib.hid h1c
  clear h1c
  have hbase0 : B ≤ ((W.alloc (.cells #[.int .i64 (a : Int), .int .i64 (b : Int), .int .i64 (c : Int)] 67)).drew).heap.size := by
    have := hAW.hp; simp; omega
  go_region_law ((refine step_append_lies _ rfl (.tmp 36) (.tmp 38) 73 rfl B 67 ti _ 3 24 Try.underlying73 HTI.out HTZ.out HTS.out HTB.out rfl (by omega) (.slice A ds.length cp) ds.length (cellsOf ds) rfl ?_ ⟨W.heap.size, 0, none⟩ 1 1 [.int .i64 (a : Int), .int .i64 (b : Int), .int .i64 (c : Int)] rfl rfl ?_ H1C.out (by omega) (by unfold maxLen; omega) (by omega) ?_ (W.heap.size + 1) ?_ ?_; exact ((hAW.alloc _).drew).row; exact news3 _ _ _ _ _; exact hbase0; simp; intro g cap w1 hown hgrow hat hlt; obtain ⟨hc1w, hfzw⟩ := ((hAW.alloc _).drew).grown_p hgrow; have M := Mid.make (d := (a, b, c)) h hW HBOX.out hown hgrow hat; clear hown hgrow hat))
  all_goals
    generalize (w1.setCell ⟨p, 1, none⟩ (.slice (some ⟨g, 0, none⟩) (ds.length + 1) cap)) = W2 at M ⊢
    clear hc1w hfzw hlt c1' fz' b0 b1 b2 hpl' hbl hAW hbase0 HBOX
    have hpl2 := lt_of_get M.blk
    have c2 : W2.cell? ⟨p, 2, none⟩ = some (.map (some m)) := by simp [World.cell?, M.blk]
    have b0 : W2.cell? ⟨w.heap.size, 0, none⟩ = some (.int .i64 (a : Int)) := by simp [World.cell?, M.box]
    have b1 : W2.cell? ⟨w.heap.size, 1, none⟩ = some (.int .i64 (b : Int)) := by simp [World.cell?, M.box]
    have b2 : W2.cell? ⟨w.heap.size, 2, none⟩ = some (.int .i64 (c : Int)) := by simp [World.cell?, M.box]
    have hup := run_mapUpdate72 (a, b, c) ds m W2.drew M.map HI.out
    unfold keyOf at hup
    rw [show ((ds.length : Int) + 2) = 2 + (ds.length : Int) from by omega] at hup
    go_wp2_with fail
    go_region
    all_goals
      go_wp2_with fail
      go_ret
      refine ⟨ret_int (by simp; omega), _, Mid.done (W2 := W2.drew) h ⟨M.blk, M.map, M.row, M.box, ⟨M.fr.os, M.fr.tape, M.fr.output, M.fr.size, M.fr.blk, M.fr.own⟩⟩ hwf hfew⟩

theorem Gives.of_below {w' : World} {e : Ending} {r : Nat} (h : Ar w B p m sv vars ds) (he : e = .returned (.int .i64 (r : Int))) (hb : Below w.heap.size w w') : Gives w B p m sv vars r ds e w' :=
  ⟨he, sv, h.below hb, Fr.of_below hb p m sv⟩

/-- 'decide': finds a decision again, or keeps it. -/
theorem decide_any (h : Ar w B p m sv vars ds) (d : Dec) (hname : d.1 < vars) (hlo : d.2.1 < ds.length + 2) (hhi : d.2.2 < ds.length + 2) (tlo : top ds d.2.1 ≤ d.1) (thi : top ds d.2.2 ≤ d.1) (hfew : ds.length < 100000) :
    Calls Try.prog 37 #[.pointer (some ⟨p, 0, none⟩), keyOf d] w (Gives w B p m sv vars (decide_ ds d).1 (decide_ ds d).2) := by
  have hM := decide_made h.wf hname hlo hhi tlo thi
  by_cases he : d.2.1 = d.2.2
  · have e : decide_ ds d = (d.2.2, ds) := if_pos he
    rw [e]
    exact (decide_same w p d he).mono fun _ _ ⟨h1, h2⟩ => Gives.of_below h h1 h2
  · rcases hi : ds.findIdx? (fun x => decide (x = d)) with _ | i
    · have e : decide_ ds d = (ds.length + 2, ds ++ [d]) := by unfold decide_; rw [if_neg he, hi]
      rw [e] at hM ⊢
      exact decide_new h d he hi hfew hM.1
    · have e : decide_ ds d = (i + 2, ds) := by unfold decide_; rw [if_neg he, hi]
      rw [e]
      exact (decide_found h d he i hi).mono fun _ _ ⟨h1, h2⟩ => Gives.of_below h (h1.trans (ret_int (by simp))) h2
end
end Go.Proofs.Ythhcahojbgcihaa
