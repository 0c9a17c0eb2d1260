/- What is proved: top, begin, push, pop. -/
import Derived.Test.YtjmbchemdcmegaaMe
import Derived.Deep.RegionLaw
namespace Go.Proofs.Ytjmbchemdcmegaa
open Go.RowKit
open Ct Ct.T

set_option maxRecDepth 100000 in
theorem top_nil (R c : Nat) (a : Option Addr) (w : World) (hc : w.cell? ⟨R, 1, none⟩ = some (.slice a 0 c)) : Calls Try.prog 21 #[.pointer (some ⟨R, 1, none⟩)] w fun e w' => e = .returned (.pointer none) ∧ w' = w := by
  go_enter Try.func21, Try.ntmps21
  go_wp2_with fail
  go_ret
  exact ⟨rfl, rfl⟩

set_option maxRecDepth 100000 in
theorem top_cons (R g m c : Nat) (w : World) (hc : w.cell? ⟨R, 1, none⟩ = some (.slice (some ⟨g, 0, none⟩) (m + 1) c)) (hm : m ≤ 1000000) : Calls Try.prog 21 #[.pointer (some ⟨R, 1, none⟩)] w fun e w' => e = .returned (.pointer (some ⟨g, m * 4, none⟩)) ∧ ∃ q, w' = w.drewN q := by
  have z1 : ((m : Int) + 1 == 0) = false := by simp; omega
  have z2 : (0 : Int) ≤ m := by omega
  have z3 : (m : Int) < m + 1 := by omega
  have z4 : IntKind.i64.wrap (m : Int) = m := IntWalk.i64_in _ (by omega)
  have z5 : IntKind.i64.wrap ((m : Int) + 1 - 1) = m := by rw [IntWalk.i64_in _ (by omega)]; omega
  go_enter Try.func21, Try.ntmps21
  go_wp2_with fail
  go_quiet (fail)
  go_wp2_with fail
  go_ret
  exact ⟨rfl, _, rfl⟩

def BeginPost (w : World) (gc oc i n base : Nat) (bv : Value) (bxs : List Value) (e : Ending) (w' : World) : Prop :=
  e = .returned (.tuple #[]) ∧ ∃ bv' W1, Gr w W1 bv bv' ∧ W1.ownsRow base 41 2 bv' (n + 1) (bxs ++ [.int .i64 i, .slice none 0 0]) ∧ w' = W1.setCell ⟨gc, oc + 2, none⟩ bv'

set_option maxRecDepth 100000 in
set_option maxHeartbeats 4000000 in
theorem begin_any (gc oc i n base : Nat) (bv : Value) (bxs : List Value) (w : World) (hc : w.cell? ⟨gc, oc + 2, none⟩ = some bv) (hfz : w.frozen? ⟨gc, oc + 2, none⟩ = false) (hrow : w.ownsRow base 41 2 bv n bxs) (hne : bv.ownBlock ≠ some gc) (hb : base ≤ w.heap.size) (hn : n ≤ 1000000) :
    Calls Try.prog 27 #[.pointer (some ⟨gc, oc, none⟩), .int .i64 i] w (BeginPost w gc oc i n base bv bxs) := by
  obtain ⟨i0, hi, hz0, hz1, hz2⟩ := info_parts infoBr
  have hlt := lt_of_cell hc
  go_enter Try.func27, Try.ntmps27
  go_wp2_with (at_builtin; refine wpList_append_lies _ rfl _ _ 37 rfl base 41 i0 (.agg #[.int .i64 0, .slice none 0 0]) 2 32 Try.underlying37 hi hz0 hz1 hz2 rfl (by decide) bv n bxs rfl (hrow.alloc _) ⟨w.heap.size, 0, none⟩ 1 1 [.int .i64 i, .slice none 0 0] rfl rfl (news2 _ _ _ _) (by simp [Value.oneCell']) (by decide) (by unfold maxLen; omega) (by omega) (by simp; omega) (w.heap.size + 1) (by simp) ?_; intro g' cap' W1 hown' hgrow hat _; have hG : Gr w W1 bv (.slice (some ⟨g', 0, none⟩) (n + 1) cap') := (Gr.alloc _ _ _).trans (Gr.lies hgrow (by simpa using hat)); have hc1 := (World.cell?_of_block (w := w) (a := ⟨gc, oc + 2, none⟩) (hG.block hlt hne)).trans hc; have hf1 := (World.frozen?_of_block (w := w) (a := ⟨gc, oc + 2, none⟩) (hG.block hlt hne)).trans hfz)
  exact bodyPost_ret (v := .tuple #[]) (by simp [results, Try.results27, go_sem]) rfl ⟨rfl, _, W1, hG, hown', rfl⟩

def PushPost (w : World) (R m base : Nat) (tv : Value) (cs new : List Value) (e : Ending) (w' : World) : Prop :=
  e = .returned (.tuple #[]) ∧ ∃ tv' W1, Gr w W1 tv tv' ∧ W1.ownsRow base 55 4 tv' (m + 1) (cs ++ new) ∧ ∃ q, w' = (W1.setCell ⟨R, 1, none⟩ tv').drewN q

set_option maxRecDepth 100000 in
set_option maxHeartbeats 4000000 in
theorem push_any (R m base l bn bc : Nat) (ba : Option Addr) (els : Bool) (tv : Value) (cs : List Value) (w : World) (hc : w.cell? ⟨R, 1, none⟩ = some tv) (hfz : w.frozen? ⟨R, 1, none⟩ = false) (hrow : w.ownsRow base 55 4 tv m cs) (hne : tv.ownBlock ≠ some R) (hb : base ≤ w.heap.size) (hn : m ≤ 1000000) :
    Calls Try.prog 28 #[.pointer (some ⟨R, 1, none⟩), .agg #[.int .i64 l, .int .i64 0, .slice ba bn bc, .bool els]] w (PushPost w R m base tv cs [.int .i64 l, .int .i64 0, .slice ba bn bc, .bool els]) := by
  obtain ⟨i0, hi, hz0, hz1, hz2⟩ := info_parts infoCond
  have hlt := lt_of_cell hc
  have HI := Lib.hid hi
  have HZ0 := Lib.hid hz0
  have HZ1 := Lib.hid hz1
  have HZ2 := Lib.hid hz2
  clear hi hz0 hz1 hz2
  go_enter Try.func28, Try.ntmps28
  go_wp2_with fail
  have hG0 := Gr.alloc w tv (.cells #[.int .i64 l, .int .i64 0, .slice ba bn bc, .bool els] 55)
  have hbox : (w.alloc (.cells #[.int .i64 l, .int .i64 0, .slice ba bn bc, .bool els] 55)).heap[w.heap.size]? = some (.cells #[.int .i64 l, .int .i64 0, .slice ba bn bc, .bool els] 55 (0, 0)) := heap_alloc_new _ _
  have hrW := hrow.alloc (.cells #[.int .i64 l, .int .i64 0, .slice ba bn bc, .bool els] 55)
  generalize (w.alloc (.cells #[.int .i64 l, .int .i64 0, .slice ba bn bc, .bool els] 55)) = W at hG0 hbox hrW ⊢
  have hblk := hG0.block hlt hne
  have c1 := (World.cell?_of_block (w := w) (a := ⟨R, 1, none⟩) hblk).trans hc
  have fz1 := (World.frozen?_of_block (w := w) (a := ⟨R, 1, none⟩) hblk).trans hfz
  have b0 : W.cell? ⟨w.heap.size, 0, none⟩ = some (.int .i64 l) := by simp [World.cell?, hbox]
  have b1 : W.cell? ⟨w.heap.size, 1, none⟩ = some (.int .i64 0) := by simp [World.cell?, hbox]
  have b2 : W.cell? ⟨w.heap.size, 2, none⟩ = some (.slice ba bn bc) := by simp [World.cell?, hbox]
  have b3 : W.cell? ⟨w.heap.size, 3, none⟩ = some (.bool els) := by simp [World.cell?, hbox]
  have hRl := lt_of_cell c1
  have hbl := lt_of_block hbox
  have hsz0 := hG0.g.size
  have HG0 := Lib.hid hG0
  have HRW := Lib.hid hrW
  have HC := Lib.hid hc
  have HFZ := Lib.hid hfz
  have HNE := Lib.hid hne
  have h1c : ∀ u ∈ [Value.int .i64 l, .int .i64 0, .slice ba bn bc, .bool els], u.oneCell' = true := by simp [Value.oneCell']
  have H1C := Lib.hid h1c
  have hbase0 : base ≤ ((W.alloc (.cells #[.int .i64 l, .int .i64 0, .slice ba bn bc, .bool els] 55)).drew).heap.size := by simp; omega
  clear h1c hG0 hrW hc hfz hne hblk hbox
  go_region_law ((refine step_append_lies _ rfl (.tmp 8) (.tmp 10) 42 rfl base 55 i0 _ 4 48 Try.underlying42 HI.out HZ0.out HZ1.out HZ2.out rfl (by omega) tv m cs rfl ?_ ⟨W.heap.size, 0, none⟩ 1 1 [.int .i64 l, .int .i64 0, .slice ba bn bc, .bool els] rfl rfl ?_ H1C.out (by omega) (by unfold maxLen; omega) (by omega) ?_ (W.heap.size + 1) ?_ ?_; exact ((HRW.out.alloc _).drew); exact news4 _ _ _ _ _ _; exact hbase0; simp; intro g cap w1 hown hgrow hat hlt1; have hG1 := HG0.out.trans (((Gr.alloc _ _ _).trans (Gr.drew _ _)).trans (Gr.lies (n := m + 1) (cap := cap) hgrow (by simpa using hat))); have hc1w := (World.cell?_of_block (w := w) (a := ⟨R, 1, none⟩) (hG1.block hlt HNE.out)).trans HC.out; have hfzw := (World.frozen?_of_block (w := w) (a := ⟨R, 1, none⟩) (hG1.block hlt HNE.out)).trans HFZ.out))
  all_goals
    exact bodyPost_ret (v := .tuple #[]) (by simp [results, Try.results28, go_sem]) rfl ⟨rfl, _, w1, hG1, hown, 0, rfl⟩

set_option maxRecDepth 100000 in
set_option maxHeartbeats 4000000 in
theorem pop_any (R g m c l bn bc : Nat) (ba : Option Addr) (els : Bool) (w : World) (hc : w.cell? ⟨R, 1, none⟩ = some (.slice (some ⟨g, 0, none⟩) (m + 1) c)) (hfz : w.frozen? ⟨R, 1, none⟩ = false) (hm : m ≤ 1000000) (hmc : m + 1 ≤ c)
    (c0 : w.cell? ⟨g, m * 4, none⟩ = some (.int .i64 l)) (c1 : w.cell? ⟨g, m * 4 + 1, none⟩ = some (.int .i64 0)) (c2 : w.cell? ⟨g, m * 4 + 2, none⟩ = some (.slice ba bn bc)) (c3 : w.cell? ⟨g, m * 4 + 3, none⟩ = some (.bool els)) :
    Calls Try.prog 29 #[.pointer (some ⟨R, 1, none⟩)] w fun e w' => e = .returned (.agg #[.int .i64 l, .int .i64 0, .slice ba bn bc, .bool els]) ∧ ∃ o o', w' = ((w.setCell ⟨R, 1, none⟩ (.slice (some ⟨g, 0, none⟩) m c)).alloc o).alloc o' := by
  have z2 : (0 : Int) ≤ m := by omega
  have z3 : (m : Int) < m + 1 := by omega
  have z4 : IntKind.i64.wrap (m : Int) = m := IntWalk.i64_in _ (by omega)
  have z5 : IntKind.i64.wrap ((m : Int) + 1 - 1) = m := by rw [IntWalk.i64_in _ (by omega)]; omega
  have z6 : (m : Int) ≤ c := by omega
  have hRl := lt_of_cell hc
  have hgl := lt_of_cell c0
  go_enter Try.func29, Try.ntmps29
  go_wp2_with fail
  exact bodyPost_ret (v := .agg #[.int .i64 l, .int .i64 0, .slice ba bn bc, .bool els]) (by simp [results, Try.results29, go_sem]) rfl ⟨rfl, _, _, rfl⟩
end Go.Proofs.Ytjmbchemdcmegaa
