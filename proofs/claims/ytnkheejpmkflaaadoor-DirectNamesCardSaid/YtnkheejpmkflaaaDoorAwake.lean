/- What is proved: the chapter's examples are told as they stand there. -/
import Derived.Test.YtnkheejpmkflaaaDoorE1
namespace Go.Proofs.YtnkheejpmkflaaaDoor
open Go.RowKit Go.Shelf

theorem ex_a : (Dx.firstLn ⟨#[105, 110, 116, 32, 120, 59]⟩).kind = 1 ∧ (Dx.firstLn ⟨#[105, 110, 116, 32, 120, 59]⟩).toks.length = 3 := ⟨by kernel_rfl, by kernel_rfl⟩
theorem ex_b : (Dx.firstLn ⟨#[35, 32, 105, 102, 32, 65]⟩).kind = 2 ∧ (Dx.firstLn ⟨#[35, 32, 105, 102, 32, 65]⟩).toks.length = 1 := ⟨by kernel_rfl, by kernel_rfl⟩
theorem ex_c : (Dx.firstLn ⟨#[35]⟩).kind = 14 ∧ (Dx.firstLn ⟨#[35]⟩).toks.length = 0 := ⟨by kernel_rfl, by kernel_rfl⟩
theorem ex_d : (Dx.firstLn ⟨#[35, 102, 111, 111, 32, 49]⟩).kind = 15 ∧ (Dx.firstLn ⟨#[35, 102, 111, 111, 32, 49]⟩).toks.length = 2 := ⟨by kernel_rfl, by kernel_rfl⟩
theorem ex_e : (Dx.firstLn ⟨#[35, 49, 50]⟩).kind = 15 ∧ (Dx.firstLn ⟨#[35, 49, 50]⟩).toks.length = 1 := ⟨by kernel_rfl, by kernel_rfl⟩
theorem ex_f : (Dx.firstLn ⟨#[35, 100, 101, 102, 105, 110, 101, 32, 88, 32, 49]⟩).kind = 8 ∧ (Dx.firstLn ⟨#[35, 100, 101, 102, 105, 110, 101, 32, 88, 32, 49]⟩).toks.length = 2 := ⟨by kernel_rfl, by kernel_rfl⟩
theorem ex_g : Dx.target (Dx.firstLn ⟨#[35, 105, 110, 99, 108, 117, 100, 101, 32, 34, 97, 46, 104, 34]⟩).kind (Dx.firstLn ⟨#[35, 105, 110, 99, 108, 117, 100, 101, 32, 34, 97, 46, 104, 34]⟩).toks = (⟨#[97, 46, 104]⟩, false, 0) := by kernel_rfl
theorem ex_j : Dx.target (Dx.firstLn ⟨#[35, 105, 110, 99, 108, 117, 100, 101, 32, 60, 115, 121, 115, 47, 97, 46, 104, 62]⟩).kind (Dx.firstLn ⟨#[35, 105, 110, 99, 108, 117, 100, 101, 32, 60, 115, 121, 115, 47, 97, 46, 104, 62]⟩).toks = (⟨#[115, 121, 115, 47, 97, 46, 104]⟩, true, 0) := by kernel_rfl
theorem ex_m : Dx.target (Dx.firstLn ⟨#[35, 105, 110, 99, 108, 117, 100, 101, 32, 88]⟩).kind (Dx.firstLn ⟨#[35, 105, 110, 99, 108, 117, 100, 101, 32, 88]⟩).toks = (⟨#[]⟩, false, 40) := by kernel_rfl
theorem ex_n : (Dx.firstLn ⟨#[120, 32, 35, 32, 105, 102]⟩).kind = 1 ∧ (Dx.firstLn ⟨#[120, 32, 35, 32, 105, 102]⟩).toks.length = 3 := ⟨by kernel_rfl, by kernel_rfl⟩

set_option maxRecDepth 100000 in
set_option maxHeartbeats 8000000 in
theorem awake_any (w : World) (hG : Glob w) : Calls Tryd.prog 9 #[] w (TruePost w) := by
  have HG := Lib.hid hG
  clear hG
  go_enter Tryd.func9, Tryd.ntmps9
  go_wp2_with fail
  refine (lfirst_any ⟨#[105, 110, 116, 32, 120, 59]⟩ (by decide) _ HG.out).mono ?_
  rintro e wa ⟨ada, ca, rfl, hka, hBa0⟩
  clear hka
  rw [ex_a.1, ex_a.2]
  dsimp only [lnAgg]
  obtain ⟨fa, hfa⟩ : ∃ fa : Nat, fa = (Dx.firstLn ⟨#[105, 110, 116, 32, 120, 59]⟩).first := ⟨_, rfl⟩
  obtain ⟨na, hna⟩ : ∃ na : Nat, na = (Dx.firstLn ⟨#[105, 110, 116, 32, 120, 59]⟩).n := ⟨_, rfl⟩
  rw [← hfa, ← hna]
  clear hfa hna
  have hBa := hBa0.alloc hBa0.size (.cells #[.int .i64 1, .int .i64 fa, .int .i64 na, .slice ada 3 ca] 34)
  have ka := heap_alloc_new wa (.cells #[.int .i64 1, .int .i64 fa, .int .i64 na, .slice ada 3 ca] 34)
  clear hBa0
  go_wp2_with fail
  refine (lfirst_any ⟨#[35, 32, 105, 102, 32, 65]⟩ (by decide) _ (HG.out.later hBa)).mono ?_
  rintro e wb ⟨adb, cb, rfl, hkb, hBb0⟩
  replace ka := (hBb0.block _ (lt_of_heap ka)).trans ka
  replace hBb0 := Below.then hBa hBb0
  clear hBa
  clear hkb
  rw [ex_b.1, ex_b.2]
  dsimp only [lnAgg]
  obtain ⟨fb, hfb⟩ : ∃ fb : Nat, fb = (Dx.firstLn ⟨#[35, 32, 105, 102, 32, 65]⟩).first := ⟨_, rfl⟩
  obtain ⟨nb, hnb⟩ : ∃ nb : Nat, nb = (Dx.firstLn ⟨#[35, 32, 105, 102, 32, 65]⟩).n := ⟨_, rfl⟩
  rw [← hfb, ← hnb]
  clear hfb hnb
  have hBb := hBb0.alloc hBb0.size (.cells #[.int .i64 2, .int .i64 fb, .int .i64 nb, .slice adb 1 cb] 34)
  replace ka := (Below.heap_alloc wb (.cells #[.int .i64 2, .int .i64 fb, .int .i64 nb, .slice adb 1 cb] 34) _ (lt_of_heap ka)).trans ka
  have kb := heap_alloc_new wb (.cells #[.int .i64 2, .int .i64 fb, .int .i64 nb, .slice adb 1 cb] 34)
  clear hBb0
  go_wp2_with fail
  refine (lfirst_any ⟨#[35]⟩ (by decide) _ (HG.out.later hBb)).mono ?_
  rintro e wc ⟨adc, cc, rfl, hkc, hBc0⟩
  replace ka := (hBc0.block _ (lt_of_heap ka)).trans ka
  replace kb := (hBc0.block _ (lt_of_heap kb)).trans kb
  replace hBc0 := Below.then hBb hBc0
  clear hBb
  clear hkc
  rw [ex_c.1, ex_c.2]
  dsimp only [lnAgg]
  obtain ⟨fc, hfc⟩ : ∃ fc : Nat, fc = (Dx.firstLn ⟨#[35]⟩).first := ⟨_, rfl⟩
  obtain ⟨nc, hnc⟩ : ∃ nc : Nat, nc = (Dx.firstLn ⟨#[35]⟩).n := ⟨_, rfl⟩
  rw [← hfc, ← hnc]
  clear hfc hnc
  have hBc := hBc0.alloc hBc0.size (.cells #[.int .i64 14, .int .i64 fc, .int .i64 nc, .slice adc 0 cc] 34)
  replace ka := (Below.heap_alloc wc (.cells #[.int .i64 14, .int .i64 fc, .int .i64 nc, .slice adc 0 cc] 34) _ (lt_of_heap ka)).trans ka
  replace kb := (Below.heap_alloc wc (.cells #[.int .i64 14, .int .i64 fc, .int .i64 nc, .slice adc 0 cc] 34) _ (lt_of_heap kb)).trans kb
  have kc := heap_alloc_new wc (.cells #[.int .i64 14, .int .i64 fc, .int .i64 nc, .slice adc 0 cc] 34)
  clear hBc0
  go_wp2_with fail
  refine (lfirst_any ⟨#[35, 102, 111, 111, 32, 49]⟩ (by decide) _ (HG.out.later hBc)).mono ?_
  rintro e wd ⟨add, cd, rfl, hkd, hBd0⟩
  replace ka := (hBd0.block _ (lt_of_heap ka)).trans ka
  replace kb := (hBd0.block _ (lt_of_heap kb)).trans kb
  replace kc := (hBd0.block _ (lt_of_heap kc)).trans kc
  replace hBd0 := Below.then hBc hBd0
  clear hBc
  clear hkd
  rw [ex_d.1, ex_d.2]
  dsimp only [lnAgg]
  obtain ⟨fd, hfd⟩ : ∃ fd : Nat, fd = (Dx.firstLn ⟨#[35, 102, 111, 111, 32, 49]⟩).first := ⟨_, rfl⟩
  obtain ⟨nd, hnd⟩ : ∃ nd : Nat, nd = (Dx.firstLn ⟨#[35, 102, 111, 111, 32, 49]⟩).n := ⟨_, rfl⟩
  rw [← hfd, ← hnd]
  clear hfd hnd
  have hBd := hBd0.alloc hBd0.size (.cells #[.int .i64 15, .int .i64 fd, .int .i64 nd, .slice add 2 cd] 34)
  replace ka := (Below.heap_alloc wd (.cells #[.int .i64 15, .int .i64 fd, .int .i64 nd, .slice add 2 cd] 34) _ (lt_of_heap ka)).trans ka
  replace kb := (Below.heap_alloc wd (.cells #[.int .i64 15, .int .i64 fd, .int .i64 nd, .slice add 2 cd] 34) _ (lt_of_heap kb)).trans kb
  replace kc := (Below.heap_alloc wd (.cells #[.int .i64 15, .int .i64 fd, .int .i64 nd, .slice add 2 cd] 34) _ (lt_of_heap kc)).trans kc
  have kd := heap_alloc_new wd (.cells #[.int .i64 15, .int .i64 fd, .int .i64 nd, .slice add 2 cd] 34)
  clear hBd0
  go_wp2_with fail
  refine (lfirst_any ⟨#[35, 49, 50]⟩ (by decide) _ (HG.out.later hBd)).mono ?_
  rintro e we ⟨ade, ce, rfl, hke, hBe0⟩
  replace ka := (hBe0.block _ (lt_of_heap ka)).trans ka
  replace kb := (hBe0.block _ (lt_of_heap kb)).trans kb
  replace kc := (hBe0.block _ (lt_of_heap kc)).trans kc
  replace kd := (hBe0.block _ (lt_of_heap kd)).trans kd
  replace hBe0 := Below.then hBd hBe0
  clear hBd
  clear hke
  rw [ex_e.1, ex_e.2]
  dsimp only [lnAgg]
  obtain ⟨fe, hfe⟩ : ∃ fe : Nat, fe = (Dx.firstLn ⟨#[35, 49, 50]⟩).first := ⟨_, rfl⟩
  obtain ⟨ne, hne⟩ : ∃ ne : Nat, ne = (Dx.firstLn ⟨#[35, 49, 50]⟩).n := ⟨_, rfl⟩
  rw [← hfe, ← hne]
  clear hfe hne
  have hBe := hBe0.alloc hBe0.size (.cells #[.int .i64 15, .int .i64 fe, .int .i64 ne, .slice ade 1 ce] 34)
  replace ka := (Below.heap_alloc we (.cells #[.int .i64 15, .int .i64 fe, .int .i64 ne, .slice ade 1 ce] 34) _ (lt_of_heap ka)).trans ka
  replace kb := (Below.heap_alloc we (.cells #[.int .i64 15, .int .i64 fe, .int .i64 ne, .slice ade 1 ce] 34) _ (lt_of_heap kb)).trans kb
  replace kc := (Below.heap_alloc we (.cells #[.int .i64 15, .int .i64 fe, .int .i64 ne, .slice ade 1 ce] 34) _ (lt_of_heap kc)).trans kc
  replace kd := (Below.heap_alloc we (.cells #[.int .i64 15, .int .i64 fe, .int .i64 ne, .slice ade 1 ce] 34) _ (lt_of_heap kd)).trans kd
  have ke := heap_alloc_new we (.cells #[.int .i64 15, .int .i64 fe, .int .i64 ne, .slice ade 1 ce] 34)
  clear hBe0
  go_wp2_with fail
  refine (lfirst_any ⟨#[35, 100, 101, 102, 105, 110, 101, 32, 88, 32, 49]⟩ (by decide) _ (HG.out.later hBe)).mono ?_
  rintro e wf ⟨adf, cf, rfl, hkf, hBf0⟩
  replace ka := (hBf0.block _ (lt_of_heap ka)).trans ka
  replace kb := (hBf0.block _ (lt_of_heap kb)).trans kb
  replace kc := (hBf0.block _ (lt_of_heap kc)).trans kc
  replace kd := (hBf0.block _ (lt_of_heap kd)).trans kd
  replace ke := (hBf0.block _ (lt_of_heap ke)).trans ke
  replace hBf0 := Below.then hBe hBf0
  clear hBe
  clear hkf
  rw [ex_f.1, ex_f.2]
  dsimp only [lnAgg]
  obtain ⟨ff, hff⟩ : ∃ ff : Nat, ff = (Dx.firstLn ⟨#[35, 100, 101, 102, 105, 110, 101, 32, 88, 32, 49]⟩).first := ⟨_, rfl⟩
  obtain ⟨nf, hnf⟩ : ∃ nf : Nat, nf = (Dx.firstLn ⟨#[35, 100, 101, 102, 105, 110, 101, 32, 88, 32, 49]⟩).n := ⟨_, rfl⟩
  rw [← hff, ← hnf]
  clear hff hnf
  have hBf := hBf0.alloc hBf0.size (.cells #[.int .i64 8, .int .i64 ff, .int .i64 nf, .slice adf 2 cf] 34)
  replace ka := (Below.heap_alloc wf (.cells #[.int .i64 8, .int .i64 ff, .int .i64 nf, .slice adf 2 cf] 34) _ (lt_of_heap ka)).trans ka
  replace kb := (Below.heap_alloc wf (.cells #[.int .i64 8, .int .i64 ff, .int .i64 nf, .slice adf 2 cf] 34) _ (lt_of_heap kb)).trans kb
  replace kc := (Below.heap_alloc wf (.cells #[.int .i64 8, .int .i64 ff, .int .i64 nf, .slice adf 2 cf] 34) _ (lt_of_heap kc)).trans kc
  replace kd := (Below.heap_alloc wf (.cells #[.int .i64 8, .int .i64 ff, .int .i64 nf, .slice adf 2 cf] 34) _ (lt_of_heap kd)).trans kd
  replace ke := (Below.heap_alloc wf (.cells #[.int .i64 8, .int .i64 ff, .int .i64 nf, .slice adf 2 cf] 34) _ (lt_of_heap ke)).trans ke
  have kf := heap_alloc_new wf (.cells #[.int .i64 8, .int .i64 ff, .int .i64 nf, .slice adf 2 cf] 34)
  clear hBf0
  go_wp2_with fail
  refine (lfirst_any ⟨#[35, 105, 110, 99, 108, 117, 100, 101, 32, 34, 97, 46, 104, 34]⟩ (by decide) _ (HG.out.later hBf)).mono ?_
  rintro e wg ⟨adg, cg, rfl, hkg, hBg0⟩
  replace ka := (hBg0.block _ (lt_of_heap ka)).trans ka
  replace kb := (hBg0.block _ (lt_of_heap kb)).trans kb
  replace kc := (hBg0.block _ (lt_of_heap kc)).trans kc
  replace kd := (hBg0.block _ (lt_of_heap kd)).trans kd
  replace ke := (hBg0.block _ (lt_of_heap ke)).trans ke
  replace kf := (hBg0.block _ (lt_of_heap kf)).trans kf
  replace hBg0 := Below.then hBf hBg0
  clear hBf
  go_wp2_with fail
  refine (target_fit _ _ _ _ _ _ hkg (Dx.firstLn_fit _ (by decide))).mono ?_
  rintro e wg' ⟨rfl, hBg⟩
  rw [ex_g]
  dsimp only [tgtV]
  replace ka := (hBg.block _ (lt_of_heap ka)).trans ka
  replace kb := (hBg.block _ (lt_of_heap kb)).trans kb
  replace kc := (hBg.block _ (lt_of_heap kc)).trans kc
  replace kd := (hBg.block _ (lt_of_heap kd)).trans kd
  replace ke := (hBg.block _ (lt_of_heap ke)).trans ke
  replace kf := (hBg.block _ (lt_of_heap kf)).trans kf
  replace hBg := Below.then hBg0 hBg
  clear hBg0 hkg
  go_wp2_with fail
  refine (lfirst_any ⟨#[35, 105, 110, 99, 108, 117, 100, 101, 32, 60, 115, 121, 115, 47, 97, 46, 104, 62]⟩ (by decide) _ (HG.out.later hBg)).mono ?_
  rintro e wj ⟨adj, cj, rfl, hkj, hBj0⟩
  replace ka := (hBj0.block _ (lt_of_heap ka)).trans ka
  replace kb := (hBj0.block _ (lt_of_heap kb)).trans kb
  replace kc := (hBj0.block _ (lt_of_heap kc)).trans kc
  replace kd := (hBj0.block _ (lt_of_heap kd)).trans kd
  replace ke := (hBj0.block _ (lt_of_heap ke)).trans ke
  replace kf := (hBj0.block _ (lt_of_heap kf)).trans kf
  replace hBj0 := Below.then hBg hBj0
  clear hBg
  go_wp2_with fail
  refine (target_fit _ _ _ _ _ _ hkj (Dx.firstLn_fit _ (by decide))).mono ?_
  rintro e wj' ⟨rfl, hBj⟩
  rw [ex_j]
  dsimp only [tgtV]
  replace ka := (hBj.block _ (lt_of_heap ka)).trans ka
  replace kb := (hBj.block _ (lt_of_heap kb)).trans kb
  replace kc := (hBj.block _ (lt_of_heap kc)).trans kc
  replace kd := (hBj.block _ (lt_of_heap kd)).trans kd
  replace ke := (hBj.block _ (lt_of_heap ke)).trans ke
  replace kf := (hBj.block _ (lt_of_heap kf)).trans kf
  replace hBj := Below.then hBj0 hBj
  clear hBj0 hkj
  go_wp2_with fail
  refine (lfirst_any ⟨#[35, 105, 110, 99, 108, 117, 100, 101, 32, 88]⟩ (by decide) _ (HG.out.later hBj)).mono ?_
  rintro e wm ⟨adm, cm, rfl, hkm, hBm0⟩
  replace ka := (hBm0.block _ (lt_of_heap ka)).trans ka
  replace kb := (hBm0.block _ (lt_of_heap kb)).trans kb
  replace kc := (hBm0.block _ (lt_of_heap kc)).trans kc
  replace kd := (hBm0.block _ (lt_of_heap kd)).trans kd
  replace ke := (hBm0.block _ (lt_of_heap ke)).trans ke
  replace kf := (hBm0.block _ (lt_of_heap kf)).trans kf
  replace hBm0 := Below.then hBj hBm0
  clear hBj
  go_wp2_with fail
  refine (target_fit _ _ _ _ _ _ hkm (Dx.firstLn_fit _ (by decide))).mono ?_
  rintro e wm' ⟨rfl, hBm⟩
  rw [ex_m]
  dsimp only [tgtV]
  replace ka := (hBm.block _ (lt_of_heap ka)).trans ka
  replace kb := (hBm.block _ (lt_of_heap kb)).trans kb
  replace kc := (hBm.block _ (lt_of_heap kc)).trans kc
  replace kd := (hBm.block _ (lt_of_heap kd)).trans kd
  replace ke := (hBm.block _ (lt_of_heap ke)).trans ke
  replace kf := (hBm.block _ (lt_of_heap kf)).trans kf
  replace hBm := Below.then hBm0 hBm
  clear hBm0 hkm
  go_wp2_with fail
  refine (lfirst_any ⟨#[120, 32, 35, 32, 105, 102]⟩ (by decide) _ (HG.out.later hBm)).mono ?_
  rintro e wn ⟨adn, cn, rfl, hkn, hBn0⟩
  replace ka := (hBn0.block _ (lt_of_heap ka)).trans ka
  replace kb := (hBn0.block _ (lt_of_heap kb)).trans kb
  replace kc := (hBn0.block _ (lt_of_heap kc)).trans kc
  replace kd := (hBn0.block _ (lt_of_heap kd)).trans kd
  replace ke := (hBn0.block _ (lt_of_heap ke)).trans ke
  replace kf := (hBn0.block _ (lt_of_heap kf)).trans kf
  replace hBn0 := Below.then hBm hBn0
  clear hBm
  clear hkn
  rw [ex_n.1, ex_n.2]
  dsimp only [lnAgg]
  obtain ⟨fn, hfn⟩ : ∃ fn : Nat, fn = (Dx.firstLn ⟨#[120, 32, 35, 32, 105, 102]⟩).first := ⟨_, rfl⟩
  obtain ⟨nn, hnn⟩ : ∃ nn : Nat, nn = (Dx.firstLn ⟨#[120, 32, 35, 32, 105, 102]⟩).n := ⟨_, rfl⟩
  rw [← hfn, ← hnn]
  clear hfn hnn
  have hBn := hBn0.alloc hBn0.size (.cells #[.int .i64 1, .int .i64 fn, .int .i64 nn, .slice adn 3 cn] 34)
  replace ka := (Below.heap_alloc wn (.cells #[.int .i64 1, .int .i64 fn, .int .i64 nn, .slice adn 3 cn] 34) _ (lt_of_heap ka)).trans ka
  replace kb := (Below.heap_alloc wn (.cells #[.int .i64 1, .int .i64 fn, .int .i64 nn, .slice adn 3 cn] 34) _ (lt_of_heap kb)).trans kb
  replace kc := (Below.heap_alloc wn (.cells #[.int .i64 1, .int .i64 fn, .int .i64 nn, .slice adn 3 cn] 34) _ (lt_of_heap kc)).trans kc
  replace kd := (Below.heap_alloc wn (.cells #[.int .i64 1, .int .i64 fn, .int .i64 nn, .slice adn 3 cn] 34) _ (lt_of_heap kd)).trans kd
  replace ke := (Below.heap_alloc wn (.cells #[.int .i64 1, .int .i64 fn, .int .i64 nn, .slice adn 3 cn] 34) _ (lt_of_heap ke)).trans ke
  replace kf := (Below.heap_alloc wn (.cells #[.int .i64 1, .int .i64 fn, .int .i64 nn, .slice adn 3 cn] 34) _ (lt_of_heap kf)).trans kf
  have kn := heap_alloc_new wn (.cells #[.int .i64 1, .int .i64 fn, .int .i64 nn, .slice adn 3 cn] 34)
  clear hBn0
  have xa0 := (Lib.cell_of_heap ka 0).trans rfl
  have xa3 := (Lib.cell_of_heap ka 3).trans rfl
  have xb0 := (Lib.cell_of_heap kb 0).trans rfl
  have xb3 := (Lib.cell_of_heap kb 3).trans rfl
  have xc0 := (Lib.cell_of_heap kc 0).trans rfl
  have xc3 := (Lib.cell_of_heap kc 3).trans rfl
  have xd0 := (Lib.cell_of_heap kd 0).trans rfl
  have xd3 := (Lib.cell_of_heap kd 3).trans rfl
  have xe0 := (Lib.cell_of_heap ke 0).trans rfl
  have xe3 := (Lib.cell_of_heap ke 3).trans rfl
  have xf0 := (Lib.cell_of_heap kf 0).trans rfl
  have xf3 := (Lib.cell_of_heap kf 3).trans rfl
  have xn0 := (Lib.cell_of_heap kn 0).trans rfl
  have xn3 := (Lib.cell_of_heap kn 3).trans rfl
  clear ka kb kc kd ke kf kn
  go_wp2_with fail
  go_ret
  exact ⟨rfl, hBn⟩
end Go.Proofs.YtnkheejpmkflaaaDoor
