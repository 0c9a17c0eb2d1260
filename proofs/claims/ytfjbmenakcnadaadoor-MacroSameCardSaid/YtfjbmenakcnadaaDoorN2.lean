/- What is proved: the chapter's examples are as it says (awake), in whatever memory. -/
import Derived.Test.YtfjbmenakcnadaaDoorN1
import Derived.Test.YtfjbmenakcnadaaDoorM14
namespace Go.Proofs.YtfjbmenakcnadaaDoor
open Go.RowKit Go.Shelf Go.WideMaps

theorem ldef_lit (s : ByteArray) (hs : s.size ≤ 10000000) (fn va : Bool) (np nb : Nat) (err : Int) (h : (Mx.df s).2 = err ∧ (Mx.df s).1.fn = fn ∧ (Mx.df s).1.va = va ∧ (Mx.df s).1.ps.length = np ∧ (Mx.df s).1.body.length = nb) (w : World) (hG : Glob w) :
    Calls Tryd.prog 10 #[.string s] w fun e w' => ∃ nm pa pc ba bc, e = .returned (.tuple #[.agg #[.string nm, .bool fn, .slice pa np pc, .bool va, .slice ba nb bc], .int .i64 err]) ∧ Below w.heap.size w w' := by
  refine (ldef_any s hs w hG).mono ?_
  rintro e W ⟨mv, rfl, ⟨pv, bv, rfl, hp, hb⟩, hB⟩
  obtain ⟨h1, h2, h3, h4, h5⟩ := h
  obtain ⟨pa, pn, pc, rfl⟩ := row_slice hp
  obtain ⟨ba, bn, bc, rfl⟩ := row_slice hb
  obtain rfl := row_len hp
  obtain rfl := row_len hb
  rw [h1, h2, h3, h4, h5]
  exact ⟨_, _, _, _, _, rfl, hB⟩
theorem lwrong_lit (s : ByteArray) (hs : s.size ≤ 10000000) (err : Int) (h : (Mx.df s).2 = err) (w : World) (hG : Glob w) :
    Calls Tryd.prog 22 #[.string s] w fun e w' => e = .returned (.int .i64 err) ∧ Below w.heap.size w w' := by
  rw [← h]; exact lwrong_any s hs w hG
theorem ex_a : (Mx.df ⟨#[88]⟩).2 = 0 ∧ (Mx.df ⟨#[88]⟩).1.fn = false ∧ (Mx.df ⟨#[88]⟩).1.va = false ∧ (Mx.df ⟨#[88]⟩).1.ps.length = 0 ∧ (Mx.df ⟨#[88]⟩).1.body.length = 0 := ⟨by kernel_rfl, by kernel_rfl, by kernel_rfl, by kernel_rfl, by kernel_rfl⟩
theorem ex_b : (Mx.df ⟨#[88, 32, 49, 32, 43, 32, 50]⟩).2 = 0 ∧ (Mx.df ⟨#[88, 32, 49, 32, 43, 32, 50]⟩).1.fn = false ∧ (Mx.df ⟨#[88, 32, 49, 32, 43, 32, 50]⟩).1.va = false ∧ (Mx.df ⟨#[88, 32, 49, 32, 43, 32, 50]⟩).1.ps.length = 0 ∧ (Mx.df ⟨#[88, 32, 49, 32, 43, 32, 50]⟩).1.body.length = 3 := ⟨by kernel_rfl, by kernel_rfl, by kernel_rfl, by kernel_rfl, by kernel_rfl⟩
theorem ex_c : (Mx.df ⟨#[70, 40, 97, 44, 32, 98, 41, 32, 97, 35, 35, 98]⟩).2 = 0 ∧ (Mx.df ⟨#[70, 40, 97, 44, 32, 98, 41, 32, 97, 35, 35, 98]⟩).1.fn = true ∧ (Mx.df ⟨#[70, 40, 97, 44, 32, 98, 41, 32, 97, 35, 35, 98]⟩).1.va = false ∧ (Mx.df ⟨#[70, 40, 97, 44, 32, 98, 41, 32, 97, 35, 35, 98]⟩).1.ps.length = 2 ∧ (Mx.df ⟨#[70, 40, 97, 44, 32, 98, 41, 32, 97, 35, 35, 98]⟩).1.body.length = 3 := ⟨by kernel_rfl, by kernel_rfl, by kernel_rfl, by kernel_rfl, by kernel_rfl⟩
theorem ex_d : (Mx.df ⟨#[70, 32, 40, 97, 41, 32, 97]⟩).2 = 0 ∧ (Mx.df ⟨#[70, 32, 40, 97, 41, 32, 97]⟩).1.fn = false ∧ (Mx.df ⟨#[70, 32, 40, 97, 41, 32, 97]⟩).1.va = false ∧ (Mx.df ⟨#[70, 32, 40, 97, 41, 32, 97]⟩).1.ps.length = 0 ∧ (Mx.df ⟨#[70, 32, 40, 97, 41, 32, 97]⟩).1.body.length = 4 := ⟨by kernel_rfl, by kernel_rfl, by kernel_rfl, by kernel_rfl, by kernel_rfl⟩
theorem ex_f : (Mx.df ⟨#[70, 40, 41]⟩).2 = 0 ∧ (Mx.df ⟨#[70, 40, 41]⟩).1.fn = true ∧ (Mx.df ⟨#[70, 40, 41]⟩).1.va = false ∧ (Mx.df ⟨#[70, 40, 41]⟩).1.ps.length = 0 ∧ (Mx.df ⟨#[70, 40, 41]⟩).1.body.length = 0 := ⟨by kernel_rfl, by kernel_rfl, by kernel_rfl, by kernel_rfl, by kernel_rfl⟩
theorem ex_g : (Mx.df ⟨#[70, 40, 46, 46, 46, 41, 32, 95, 95, 86, 65, 95, 65, 82, 71, 83, 95, 95]⟩).2 = 0 ∧ (Mx.df ⟨#[70, 40, 46, 46, 46, 41, 32, 95, 95, 86, 65, 95, 65, 82, 71, 83, 95, 95]⟩).1.fn = true ∧ (Mx.df ⟨#[70, 40, 46, 46, 46, 41, 32, 95, 95, 86, 65, 95, 65, 82, 71, 83, 95, 95]⟩).1.va = true ∧ (Mx.df ⟨#[70, 40, 46, 46, 46, 41, 32, 95, 95, 86, 65, 95, 65, 82, 71, 83, 95, 95]⟩).1.ps.length = 0 ∧ (Mx.df ⟨#[70, 40, 46, 46, 46, 41, 32, 95, 95, 86, 65, 95, 65, 82, 71, 83, 95, 95]⟩).1.body.length = 1 := ⟨by kernel_rfl, by kernel_rfl, by kernel_rfl, by kernel_rfl, by kernel_rfl⟩
theorem ex_h : (Mx.df ⟨#[70, 40, 97, 44, 32, 46, 46, 46, 41]⟩).2 = 0 ∧ (Mx.df ⟨#[70, 40, 97, 44, 32, 46, 46, 46, 41]⟩).1.fn = true ∧ (Mx.df ⟨#[70, 40, 97, 44, 32, 46, 46, 46, 41]⟩).1.va = true ∧ (Mx.df ⟨#[70, 40, 97, 44, 32, 46, 46, 46, 41]⟩).1.ps.length = 1 ∧ (Mx.df ⟨#[70, 40, 97, 44, 32, 46, 46, 46, 41]⟩).1.body.length = 0 := ⟨by kernel_rfl, by kernel_rfl, by kernel_rfl, by kernel_rfl, by kernel_rfl⟩
theorem ex_i : (Mx.df ⟨#[88, 32, 35, 98]⟩).2 = 0 ∧ (Mx.df ⟨#[88, 32, 35, 98]⟩).1.fn = false ∧ (Mx.df ⟨#[88, 32, 35, 98]⟩).1.va = false ∧ (Mx.df ⟨#[88, 32, 35, 98]⟩).1.ps.length = 0 ∧ (Mx.df ⟨#[88, 32, 35, 98]⟩).1.body.length = 2 := ⟨by kernel_rfl, by kernel_rfl, by kernel_rfl, by kernel_rfl, by kernel_rfl⟩
theorem ex_k : (Mx.df ⟨#[]⟩).2 = 60 := by kernel_rfl
theorem ex_l : (Mx.df ⟨#[100, 101, 102, 105, 110, 101, 100, 32, 49]⟩).2 = 60 := by kernel_rfl
theorem ex_m : (Mx.df ⟨#[70, 40, 97, 44, 41]⟩).2 = 61 := by kernel_rfl
theorem ex_n : (Mx.df ⟨#[70, 40, 97, 44, 32, 97, 41]⟩).2 = 61 := by kernel_rfl
theorem ex_o : (Mx.df ⟨#[88, 43, 49]⟩).2 = 62 := by kernel_rfl
theorem ex_p : (Mx.df ⟨#[88, 32, 35, 35, 32, 97]⟩).2 = 63 := by kernel_rfl
theorem ex_q : (Mx.df ⟨#[70, 40, 97, 41, 32, 35, 98]⟩).2 = 64 := by kernel_rfl
theorem ex_r : (Mx.df ⟨#[88, 32, 95, 95, 86, 65, 95, 65, 82, 71, 83, 95, 95]⟩).2 = 65 := by kernel_rfl

set_option maxRecDepth 100000 in
set_option maxHeartbeats 8000000 in
theorem awake_any (w : World) (hG : Glob w) : Calls Tryd.prog 9 #[] w (TruePost w) := by
  have HG := Lib.hid hG
  clear hG
  go_enter Tryd.func9, Tryd.ntmps9
  go_wp2_with fail
  refine (ldef_lit ⟨#[88]⟩ (by decide) _ _ _ _ _ ex_a _ HG.out).mono ?_
  rintro e wa ⟨na, pa, pca, ba, bca, rfl, hBa0⟩
  have hBa := hBa0.alloc hBa0.size (.cells #[.string na, .bool false, .slice pa 0 pca, .bool false, .slice ba 0 bca] 26)
  have ka := heap_alloc_new wa (.cells #[.string na, .bool false, .slice pa 0 pca, .bool false, .slice ba 0 bca] 26)
  clear hBa0
  go_wp2_with fail
  refine (ldef_lit ⟨#[88, 32, 49, 32, 43, 32, 50]⟩ (by decide) _ _ _ _ _ ex_b _ (HG.out.later hBa)).mono ?_
  rintro e wb ⟨nb, pb, pcb, bb, bcb, rfl, hBb0⟩
  replace ka := (hBb0.block _ (lt_of_block ka)).trans ka
  replace hBb0 := Below.then hBa hBb0
  clear hBa
  have hBb := hBb0.alloc hBb0.size (.cells #[.string nb, .bool false, .slice pb 0 pcb, .bool false, .slice bb 3 bcb] 26)
  replace ka := (Below.heap_alloc wb (.cells #[.string nb, .bool false, .slice pb 0 pcb, .bool false, .slice bb 3 bcb] 26) _ (lt_of_block ka)).trans ka
  have kb := heap_alloc_new wb (.cells #[.string nb, .bool false, .slice pb 0 pcb, .bool false, .slice bb 3 bcb] 26)
  clear hBb0
  go_wp2_with fail
  refine (ldef_lit ⟨#[70, 40, 97, 44, 32, 98, 41, 32, 97, 35, 35, 98]⟩ (by decide) _ _ _ _ _ ex_c _ (HG.out.later hBb)).mono ?_
  rintro e wc ⟨nc, pc, pcc, bc, bcc, rfl, hBc0⟩
  replace ka := (hBc0.block _ (lt_of_block ka)).trans ka
  replace kb := (hBc0.block _ (lt_of_block kb)).trans kb
  replace hBc0 := Below.then hBb hBc0
  clear hBb
  have hBc := hBc0.alloc hBc0.size (.cells #[.string nc, .bool true, .slice pc 2 pcc, .bool false, .slice bc 3 bcc] 26)
  replace ka := (Below.heap_alloc wc (.cells #[.string nc, .bool true, .slice pc 2 pcc, .bool false, .slice bc 3 bcc] 26) _ (lt_of_block ka)).trans ka
  replace kb := (Below.heap_alloc wc (.cells #[.string nc, .bool true, .slice pc 2 pcc, .bool false, .slice bc 3 bcc] 26) _ (lt_of_block kb)).trans kb
  have kc := heap_alloc_new wc (.cells #[.string nc, .bool true, .slice pc 2 pcc, .bool false, .slice bc 3 bcc] 26)
  clear hBc0
  go_wp2_with fail
  refine (ldef_lit ⟨#[70, 32, 40, 97, 41, 32, 97]⟩ (by decide) _ _ _ _ _ ex_d _ (HG.out.later hBc)).mono ?_
  rintro e wd ⟨nd, pd, pcd, bd, bcd, rfl, hBd0⟩
  replace ka := (hBd0.block _ (lt_of_block ka)).trans ka
  replace kb := (hBd0.block _ (lt_of_block kb)).trans kb
  replace kc := (hBd0.block _ (lt_of_block kc)).trans kc
  replace hBd0 := Below.then hBc hBd0
  clear hBc
  have hBd := hBd0.alloc hBd0.size (.cells #[.string nd, .bool false, .slice pd 0 pcd, .bool false, .slice bd 4 bcd] 26)
  replace ka := (Below.heap_alloc wd (.cells #[.string nd, .bool false, .slice pd 0 pcd, .bool false, .slice bd 4 bcd] 26) _ (lt_of_block ka)).trans ka
  replace kb := (Below.heap_alloc wd (.cells #[.string nd, .bool false, .slice pd 0 pcd, .bool false, .slice bd 4 bcd] 26) _ (lt_of_block kb)).trans kb
  replace kc := (Below.heap_alloc wd (.cells #[.string nd, .bool false, .slice pd 0 pcd, .bool false, .slice bd 4 bcd] 26) _ (lt_of_block kc)).trans kc
  have kd := heap_alloc_new wd (.cells #[.string nd, .bool false, .slice pd 0 pcd, .bool false, .slice bd 4 bcd] 26)
  clear hBd0
  go_wp2_with fail
  refine (ldef_lit ⟨#[70, 40, 41]⟩ (by decide) _ _ _ _ _ ex_f _ (HG.out.later hBd)).mono ?_
  rintro e wf ⟨nf, pf, pcf, bf, bcf, rfl, hBf0⟩
  replace ka := (hBf0.block _ (lt_of_block ka)).trans ka
  replace kb := (hBf0.block _ (lt_of_block kb)).trans kb
  replace kc := (hBf0.block _ (lt_of_block kc)).trans kc
  replace kd := (hBf0.block _ (lt_of_block kd)).trans kd
  replace hBf0 := Below.then hBd hBf0
  clear hBd
  have hBf := hBf0.alloc hBf0.size (.cells #[.string nf, .bool true, .slice pf 0 pcf, .bool false, .slice bf 0 bcf] 26)
  replace ka := (Below.heap_alloc wf (.cells #[.string nf, .bool true, .slice pf 0 pcf, .bool false, .slice bf 0 bcf] 26) _ (lt_of_block ka)).trans ka
  replace kb := (Below.heap_alloc wf (.cells #[.string nf, .bool true, .slice pf 0 pcf, .bool false, .slice bf 0 bcf] 26) _ (lt_of_block kb)).trans kb
  replace kc := (Below.heap_alloc wf (.cells #[.string nf, .bool true, .slice pf 0 pcf, .bool false, .slice bf 0 bcf] 26) _ (lt_of_block kc)).trans kc
  replace kd := (Below.heap_alloc wf (.cells #[.string nf, .bool true, .slice pf 0 pcf, .bool false, .slice bf 0 bcf] 26) _ (lt_of_block kd)).trans kd
  have kf := heap_alloc_new wf (.cells #[.string nf, .bool true, .slice pf 0 pcf, .bool false, .slice bf 0 bcf] 26)
  clear hBf0
  go_wp2_with fail
  refine (ldef_lit ⟨#[70, 40, 46, 46, 46, 41, 32, 95, 95, 86, 65, 95, 65, 82, 71, 83, 95, 95]⟩ (by decide) _ _ _ _ _ ex_g _ (HG.out.later hBf)).mono ?_
  rintro e wg ⟨ng, pg, pcg, bg, bcg, rfl, hBg0⟩
  replace ka := (hBg0.block _ (lt_of_block ka)).trans ka
  replace kb := (hBg0.block _ (lt_of_block kb)).trans kb
  replace kc := (hBg0.block _ (lt_of_block kc)).trans kc
  replace kd := (hBg0.block _ (lt_of_block kd)).trans kd
  replace kf := (hBg0.block _ (lt_of_block kf)).trans kf
  replace hBg0 := Below.then hBf hBg0
  clear hBf
  have hBg := hBg0.alloc hBg0.size (.cells #[.string ng, .bool true, .slice pg 0 pcg, .bool true, .slice bg 1 bcg] 26)
  replace ka := (Below.heap_alloc wg (.cells #[.string ng, .bool true, .slice pg 0 pcg, .bool true, .slice bg 1 bcg] 26) _ (lt_of_block ka)).trans ka
  replace kb := (Below.heap_alloc wg (.cells #[.string ng, .bool true, .slice pg 0 pcg, .bool true, .slice bg 1 bcg] 26) _ (lt_of_block kb)).trans kb
  replace kc := (Below.heap_alloc wg (.cells #[.string ng, .bool true, .slice pg 0 pcg, .bool true, .slice bg 1 bcg] 26) _ (lt_of_block kc)).trans kc
  replace kd := (Below.heap_alloc wg (.cells #[.string ng, .bool true, .slice pg 0 pcg, .bool true, .slice bg 1 bcg] 26) _ (lt_of_block kd)).trans kd
  replace kf := (Below.heap_alloc wg (.cells #[.string ng, .bool true, .slice pg 0 pcg, .bool true, .slice bg 1 bcg] 26) _ (lt_of_block kf)).trans kf
  have kg := heap_alloc_new wg (.cells #[.string ng, .bool true, .slice pg 0 pcg, .bool true, .slice bg 1 bcg] 26)
  clear hBg0
  go_wp2_with fail
  refine (ldef_lit ⟨#[70, 40, 97, 44, 32, 46, 46, 46, 41]⟩ (by decide) _ _ _ _ _ ex_h _ (HG.out.later hBg)).mono ?_
  rintro e wh ⟨nh, ph, pch, bh, bch, rfl, hBh0⟩
  replace ka := (hBh0.block _ (lt_of_block ka)).trans ka
  replace kb := (hBh0.block _ (lt_of_block kb)).trans kb
  replace kc := (hBh0.block _ (lt_of_block kc)).trans kc
  replace kd := (hBh0.block _ (lt_of_block kd)).trans kd
  replace kf := (hBh0.block _ (lt_of_block kf)).trans kf
  replace kg := (hBh0.block _ (lt_of_block kg)).trans kg
  replace hBh0 := Below.then hBg hBh0
  clear hBg
  have hBh := hBh0.alloc hBh0.size (.cells #[.string nh, .bool true, .slice ph 1 pch, .bool true, .slice bh 0 bch] 26)
  replace ka := (Below.heap_alloc wh (.cells #[.string nh, .bool true, .slice ph 1 pch, .bool true, .slice bh 0 bch] 26) _ (lt_of_block ka)).trans ka
  replace kb := (Below.heap_alloc wh (.cells #[.string nh, .bool true, .slice ph 1 pch, .bool true, .slice bh 0 bch] 26) _ (lt_of_block kb)).trans kb
  replace kc := (Below.heap_alloc wh (.cells #[.string nh, .bool true, .slice ph 1 pch, .bool true, .slice bh 0 bch] 26) _ (lt_of_block kc)).trans kc
  replace kd := (Below.heap_alloc wh (.cells #[.string nh, .bool true, .slice ph 1 pch, .bool true, .slice bh 0 bch] 26) _ (lt_of_block kd)).trans kd
  replace kf := (Below.heap_alloc wh (.cells #[.string nh, .bool true, .slice ph 1 pch, .bool true, .slice bh 0 bch] 26) _ (lt_of_block kf)).trans kf
  replace kg := (Below.heap_alloc wh (.cells #[.string nh, .bool true, .slice ph 1 pch, .bool true, .slice bh 0 bch] 26) _ (lt_of_block kg)).trans kg
  have kh := heap_alloc_new wh (.cells #[.string nh, .bool true, .slice ph 1 pch, .bool true, .slice bh 0 bch] 26)
  clear hBh0
  go_wp2_with fail
  refine (ldef_lit ⟨#[88, 32, 35, 98]⟩ (by decide) _ _ _ _ _ ex_i _ (HG.out.later hBh)).mono ?_
  rintro e wi ⟨ni, pi, pci, bi, bci, rfl, hBi0⟩
  replace ka := (hBi0.block _ (lt_of_block ka)).trans ka
  replace kb := (hBi0.block _ (lt_of_block kb)).trans kb
  replace kc := (hBi0.block _ (lt_of_block kc)).trans kc
  replace kd := (hBi0.block _ (lt_of_block kd)).trans kd
  replace kf := (hBi0.block _ (lt_of_block kf)).trans kf
  replace kg := (hBi0.block _ (lt_of_block kg)).trans kg
  replace kh := (hBi0.block _ (lt_of_block kh)).trans kh
  replace hBi0 := Below.then hBh hBi0
  clear hBh
  have hBi := hBi0.alloc hBi0.size (.cells #[.string ni, .bool false, .slice pi 0 pci, .bool false, .slice bi 2 bci] 26)
  replace ka := (Below.heap_alloc wi (.cells #[.string ni, .bool false, .slice pi 0 pci, .bool false, .slice bi 2 bci] 26) _ (lt_of_block ka)).trans ka
  replace kb := (Below.heap_alloc wi (.cells #[.string ni, .bool false, .slice pi 0 pci, .bool false, .slice bi 2 bci] 26) _ (lt_of_block kb)).trans kb
  replace kc := (Below.heap_alloc wi (.cells #[.string ni, .bool false, .slice pi 0 pci, .bool false, .slice bi 2 bci] 26) _ (lt_of_block kc)).trans kc
  replace kd := (Below.heap_alloc wi (.cells #[.string ni, .bool false, .slice pi 0 pci, .bool false, .slice bi 2 bci] 26) _ (lt_of_block kd)).trans kd
  replace kf := (Below.heap_alloc wi (.cells #[.string ni, .bool false, .slice pi 0 pci, .bool false, .slice bi 2 bci] 26) _ (lt_of_block kf)).trans kf
  replace kg := (Below.heap_alloc wi (.cells #[.string ni, .bool false, .slice pi 0 pci, .bool false, .slice bi 2 bci] 26) _ (lt_of_block kg)).trans kg
  replace kh := (Below.heap_alloc wi (.cells #[.string ni, .bool false, .slice pi 0 pci, .bool false, .slice bi 2 bci] 26) _ (lt_of_block kh)).trans kh
  have ki := heap_alloc_new wi (.cells #[.string ni, .bool false, .slice pi 0 pci, .bool false, .slice bi 2 bci] 26)
  clear hBi0
  have xa1 := (Lib.cell_of_heap ka 1).trans rfl
  have xa2 := (Lib.cell_of_heap ka 2).trans rfl
  have xa3 := (Lib.cell_of_heap ka 3).trans rfl
  have xa4 := (Lib.cell_of_heap ka 4).trans rfl
  have xb1 := (Lib.cell_of_heap kb 1).trans rfl
  have xb2 := (Lib.cell_of_heap kb 2).trans rfl
  have xb3 := (Lib.cell_of_heap kb 3).trans rfl
  have xb4 := (Lib.cell_of_heap kb 4).trans rfl
  have xc1 := (Lib.cell_of_heap kc 1).trans rfl
  have xc2 := (Lib.cell_of_heap kc 2).trans rfl
  have xc3 := (Lib.cell_of_heap kc 3).trans rfl
  have xc4 := (Lib.cell_of_heap kc 4).trans rfl
  have xd1 := (Lib.cell_of_heap kd 1).trans rfl
  have xd2 := (Lib.cell_of_heap kd 2).trans rfl
  have xd3 := (Lib.cell_of_heap kd 3).trans rfl
  have xd4 := (Lib.cell_of_heap kd 4).trans rfl
  have xf1 := (Lib.cell_of_heap kf 1).trans rfl
  have xf2 := (Lib.cell_of_heap kf 2).trans rfl
  have xf3 := (Lib.cell_of_heap kf 3).trans rfl
  have xf4 := (Lib.cell_of_heap kf 4).trans rfl
  have xg1 := (Lib.cell_of_heap kg 1).trans rfl
  have xg2 := (Lib.cell_of_heap kg 2).trans rfl
  have xg3 := (Lib.cell_of_heap kg 3).trans rfl
  have xg4 := (Lib.cell_of_heap kg 4).trans rfl
  have xh1 := (Lib.cell_of_heap kh 1).trans rfl
  have xh2 := (Lib.cell_of_heap kh 2).trans rfl
  have xh3 := (Lib.cell_of_heap kh 3).trans rfl
  have xh4 := (Lib.cell_of_heap kh 4).trans rfl
  have xi1 := (Lib.cell_of_heap ki 1).trans rfl
  have xi2 := (Lib.cell_of_heap ki 2).trans rfl
  have xi3 := (Lib.cell_of_heap ki 3).trans rfl
  have xi4 := (Lib.cell_of_heap ki 4).trans rfl
  clear ka kb kc kd kf kg kh ki
  go_wp2_with fail
  clear xa1 xa2 xa3 xa4 xb1 xb2 xb3 xb4 xc1 xc2 xc3 xc4 xd1 xd2 xd3 xd4 xf1 xf2 xf3 xf4 xg1 xg2 xg3 xg4 xh1 xh2 xh3 xh4 xi1 xi2 xi3 xi4
  refine (lwrong_lit ⟨#[]⟩ (by decide) _ ex_k _ (HG.out.later hBi)).mono ?_
  rintro e wk ⟨rfl, hBk0⟩
  have hBk := Below.then hBi hBk0
  clear hBi hBk0
  go_wp2_with fail
  refine (lwrong_lit ⟨#[100, 101, 102, 105, 110, 101, 100, 32, 49]⟩ (by decide) _ ex_l _ (HG.out.later hBk)).mono ?_
  rintro e wl ⟨rfl, hBl0⟩
  have hBl := Below.then hBk hBl0
  clear hBk hBl0
  go_wp2_with fail
  refine (lwrong_lit ⟨#[70, 40, 97, 44, 41]⟩ (by decide) _ ex_m _ (HG.out.later hBl)).mono ?_
  rintro e wm ⟨rfl, hBm0⟩
  have hBm := Below.then hBl hBm0
  clear hBl hBm0
  go_wp2_with fail
  refine (lwrong_lit ⟨#[70, 40, 97, 44, 32, 97, 41]⟩ (by decide) _ ex_n _ (HG.out.later hBm)).mono ?_
  rintro e wn ⟨rfl, hBn0⟩
  have hBn := Below.then hBm hBn0
  clear hBm hBn0
  go_wp2_with fail
  refine (lwrong_lit ⟨#[88, 43, 49]⟩ (by decide) _ ex_o _ (HG.out.later hBn)).mono ?_
  rintro e wo ⟨rfl, hBo0⟩
  have hBo := Below.then hBn hBo0
  clear hBn hBo0
  go_wp2_with fail
  refine (lwrong_lit ⟨#[88, 32, 35, 35, 32, 97]⟩ (by decide) _ ex_p _ (HG.out.later hBo)).mono ?_
  rintro e wp ⟨rfl, hBp0⟩
  have hBp := Below.then hBo hBp0
  clear hBo hBp0
  go_wp2_with fail
  refine (lwrong_lit ⟨#[70, 40, 97, 41, 32, 35, 98]⟩ (by decide) _ ex_q _ (HG.out.later hBp)).mono ?_
  rintro e wq ⟨rfl, hBq0⟩
  have hBq := Below.then hBp hBq0
  clear hBp hBq0
  go_wp2_with fail
  refine (lwrong_lit ⟨#[88, 32, 95, 95, 86, 65, 95, 65, 82, 71, 83, 95, 95]⟩ (by decide) _ ex_r _ (HG.out.later hBq)).mono ?_
  rintro e wr ⟨rfl, hBr0⟩
  have hBr := Below.then hBq hBr0
  clear hBq hBr0
  go_wp2_with fail
  go_ret
  exact ⟨rfl, hBr⟩
end Go.Proofs.YtfjbmenakcnadaaDoor
