/- What is proved: DirectCovers answers true, in whatever memory. -/
import Derived.Test.YtnkheejpmkflaaaDoorLawA
import Derived.Test.YtnkheejpmkflaaaDoorDw
namespace Go.Proofs.YtnkheejpmkflaaaDoor
open Go.RowKit Go.Shelf

theorem part_eq (ts : List K) (a n ah : Nat) : ((ts.drop a).take n).drop ah = (ts.drop (a + ah)).take (n - ah) := by
  rw [List.drop_take, List.drop_drop]

set_option maxRecDepth 100000 in
set_option maxHeartbeats 8000000 in
theorem dcovers_any (s : ByteArray) (hm : s.size ≤ maxLen) (w : World) (hG : Glob w) : Calls Tryd.prog 7 #[.string s] w (TruePost w) := by
  unfold maxLen at hm
  have HG := Lib.hid hG
  clear hG
  by_cases hs : s.size ≤ 1000
  · have hfit := Dx.fit_ks s (by omega)
    have hlen := hfit.len
    have hll := Dx.lines_len (Dx.ks s)
    obtain ⟨ts, hts⟩ : ∃ ts, ts = Dx.ks s := ⟨_, rfl⟩
    rw [← hts] at hlen hll
    have HT := Lib.hid hts
    obtain ⟨N, hN⟩ : ∃ N, N = ts.length := ⟨_, rfl⟩
    have HN := Lib.hid hN
    have hcut : (Dx.lines ts).length = (Dx.cuts 0 0 ts).length := by unfold Dx.lines; rw [List.length_map]
    obtain ⟨M, hM⟩ : ∃ M, M = (Dx.lines ts).length := ⟨_, rfl⟩
    rw [← hM] at hll hcut
    rw [← hN] at hlen hll
    have HM := Lib.hid hM
    have HCt := Lib.hid hcut
    clear hfit hts hN hcut hM
    go_enter Tryd.func7, Tryd.ntmps7
    go_wp2_with fail
    refine (awake_any _ HG.out).mono ?_
    rintro e w1 ⟨rfl, hB1⟩
    go_wp2_with fail
    refine (tokens_any 0 s (by omega) _ (HG.out.later hB1)).mono ?_
    rintro e w2 ⟨v, rfl, hv, hB2⟩
    have hk : Ks w2 v ts := by rw [HT.out]; exact hv.ks
    replace hB2 := Below.then hB1 hB2
    clear hB1 hv
    go_wp2_with fail
    refine (lines_any v ts _ hk (by rw [← HN.out]; omega) (HG.out.later hB2)).mono ?_
    rintro e w3 ⟨u, rfl, hu, hB3⟩
    replace hk := hk.below hB3
    replace hB3 := Below.then hB2 hB3
    clear hB2
    obtain ⟨ad, cap, rfl, hc1, hc2, -⟩ := id hk
    obtain ⟨adu, capu, rfl, hd1, hd2, -⟩ := id hu
    rw [← HN.out] at hc1 hk ⊢
    rw [← HM.out] at hd1 hu ⊢
    unfold maxLen at hc2 hd2
    have HK := Lib.hid hk
    have HU := Lib.hid hu
    have HB3 := Lib.hid hB3
    clear hk hu hB3
    go_wp2_with fail
    go_loopw [6, 7] (fun p i wr => ∃ a k : Nat, p = .int .i64 a ∧ i = .int .i64 k ∧ k ≤ M ∧ Dx.Pass ts k a ∧ Below w3.heap.size w3 wr) (fun _ i _ => M - (intOf i).toNat)
    case atStart => exact ⟨0, 0, rfl, rfl, Nat.zero_le _, Dx.pass_start ts, Below.refl _ _⟩
    case round =>
      obtain ⟨a, k, rfl, rfl, hkM, hps, hB⟩ := hrel
      have haN := hps.1
      rw [← HN.out] at haN
      by_cases hlt : k < M
      · obtain ⟨n, hx, ha, han, hno, hnext⟩ := Dx.pass_line hps (by rw [← HCt.out]; exact hlt)
        rw [← HN.out] at ha han
        obtain ⟨g, o, rfl, -, -, -, hg, hcell⟩ := HK.out.cells (by rw [← HN.out]; omega)
        obtain ⟨gu, ou, rfl, -, -, -, hgu, hcu⟩ := HU.out.cells (by rw [← HM.out]; omega)
        obtain ⟨vx, d0, d1, d2, d3, kx⟩ := (hcu k _ hx).below hB
        obtain ⟨tl, htl⟩ : ∃ tl, tl = (ts.drop a).take n := ⟨_, rfl⟩
        have htn : tl.length = n := by rw [htl, List.length_take, List.length_drop]; have := HN.out; omega
        have hble := Dx.begins_le tl
        rw [htn] at hble
        obtain ⟨ah, hah⟩ : ∃ ah, ah = (Dx.begins tl).2 := ⟨_, rfl⟩
        obtain ⟨xk, hxk⟩ : ∃ xk, xk = (Dx.begins tl).1 := ⟨_, rfl⟩
        have hlnx : Dx.lnOf ts (a, n) = ⟨xk, a, n, tl.drop ah⟩ := by unfold Dx.lnOf Dx.mkLn; rw [← htl, ← hxk, ← hah, htn]
        rw [hlnx] at d0 d1 d2 kx
        dsimp only at d0 d1 d2 kx
        rw [← hah] at hble
        obtain ⟨adx, cx, rfl, -⟩ := id kx
        obtain ⟨m, hmm⟩ : ∃ m, m = (tl.drop ah).length := ⟨_, rfl⟩
        have hmn : m + ah = n := by rw [hmm, List.length_drop, htn]; omega
        rw [← hmm] at d3 kx
        obtain ⟨j, hj⟩ : ∃ j, j = a + ah := ⟨_, rfl⟩
        have hsub : Ks wr (.slice (some ⟨g, o + (if j = cap then 0 else j * 6), none⟩) (a + n - j) (cap - j)) (tl.drop ah) := by
          have hw := HK.out.below hB
          rw [htl, part_eq ts a n ah, ← hj]
          by_cases h : j = cap
          · have h0 : n - ah = 0 := by omega
            rw [if_pos h, h0, List.take_zero, show a + n - j = 0 by omega]
            exact Ks.none_at _ _ _ (by unfold maxLen; omega)
          · rw [if_neg h]
            have := hw.part j (a + n) (by omega) (by rw [← HN.out]; exact han)
            rwa [show n - ah = a + n - j by omega]
        have HNo := Lib.hid hno
        have HNx := Lib.hid hnext
        have HC := Lib.hid hcell
        have hBx := hB.alloc hB.size (.cells #[.int .i64 xk, .int .i64 a, .int .i64 n, .slice adx m cx] 34)
        have kx' := kx.below ((Below.refl _ wr).alloc (Nat.le_refl _) (.cells #[.int .i64 xk, .int .i64 a, .int .i64 n, .slice adx m cx] 34))
        have hsub' := hsub.below ((Below.refl _ wr).alloc (Nat.le_refl _) (.cells #[.int .i64 xk, .int .i64 a, .int .i64 n, .slice adx m cx] 34))
        have kb := heap_alloc_new wr (.cells #[.int .i64 xk, .int .i64 a, .int .i64 n, .slice adx m cx] 34)
        have z1 : (0 : Int) ≤ k := by omega
        have z2 : (k : Int) < M := by omega
        clear hx hno hnext hcell hcu htl htn hah hxk hlnx hmm kx hsub hps
        have e1 : IntKind.i64.wrap ((a : Int) + n) = (a : Int) + n := IntWalk.i64_in _ (by omega)
        have e2 : IntKind.i64.wrap ((a : Int) + n - m) = (j : Int) := by rw [IntWalk.i64_in _ (by omega)]; omega
        have e4 : ((a : Int) + n).toNat = a + n := by omega
        have y1 : (0 : Int) ≤ j := by omega
        have y2 : (j : Int) ≤ (a : Int) + n := by omega
        have y3 : (a : Int) + n ≤ cap := by omega
        have y4 : (n : Int) ≥ 0 := by omega
        have y5 : (m : Int) ≤ n := by omega
        have y6 : (a : Int) + n ≤ N := by omega
        have hl56 : (tl.drop ah).length * 56 ≤ 140737488355328 := by
          have := kx'.choose_spec.choose_spec.1
          injection this with _ h2 _
          rw [← h2]; omega
        have HL := Lib.hid hl56
        clear hl56
        go_wp2_with fail
        obtain ⟨W1, hW1⟩ : ∃ W1, W1 = wr.alloc (.cells #[.int .i64 xk, .int .i64 a, .int .i64 n, .slice adx m cx] 34) := ⟨_, rfl⟩
        rw [← hW1] at hBx kx' hsub' kb ⊢
        have hx2 : W1.cell? ⟨wr.heap.size, 2, none⟩ = some (.int .i64 n) := (Lib.cell_of_heap kb 2).trans rfl
        have hx3 : W1.cell? ⟨wr.heap.size, 3, none⟩ = some (.slice adx m cx) := (Lib.cell_of_heap kb 3).trans rfl
        have hbl : wr.heap.size < W1.drew.heap.size := lt_of_cell hx2
        have KX := Lib.hid (kx'.below ((Below.refl _ W1).drew))
        have KS := Lib.hid (hsub'.below ((Below.refl _ W1).drew))
        have HBx := Lib.hid (hBx.drew)
        clear hW1 kx' hsub' hBx kb d0 d1 d2 d3
        obtain ⟨x, hx0, hx1, hxx⟩ : ∃ x, (cap = j → x = 0) ∧ (cap ≠ j → x = j * 6) ∧ x = (if j = cap then 0 else j * 6) := by
          by_cases h : j = cap
          · exact ⟨0, fun _ => rfl, fun h' => absurd h.symm h', by rw [if_pos h]⟩
          · exact ⟨j * 6, fun h' => absurd h'.symm h, fun _ => rfl, by rw [if_neg h]⟩
        rw [← hxx] at KS
        have hS : W1.drew.cell? ⟨wr.heap.size, 2, none⟩ = some (.int .i64 n) ∧ W1.drew.cell? ⟨wr.heap.size, 3, none⟩ = some (.slice adx m cx) := ⟨hx2, hx3⟩
        have Hj := Lib.hid hj
        have Hmn := Lib.hid hmn
        have Hx0 := Lib.hid hx0
        have Hx1 := Lib.hid hx1
        clear hj hmn hble hx0 hx1 hxx
        refine wp_region_held_drew (S := fun w' => w'.cell? ⟨wr.heap.size, 2, none⟩ = some (.int .i64 n) ∧ w'.cell? ⟨wr.heap.size, 3, none⟩ = some (.slice adx m cx)) (by kernel_rfl) hS (fun _ => ?_)
        refine wpAnyH_take (i := 0) (v := .pointer (some ⟨wr.heap.size, 3, none⟩)) rfl (by kernel_rfl) (by kernel_rfl) (by kernel_rfl) (fun _ _ _ h => h) (Or.inl ⟨by rfl, fun w hSw => by obtain ⟨hS2, hS3⟩ := hSw; go_simp⟩) hS ?_
        simp only [Act.put, List.getElem_toArray, List.getElem_cons_zero, List.setIfInBounds_toArray, List.set_cons_zero, List.set_cons_succ]
        refine wpAnyH_take (i := 1) (v := .slice adx m cx) rfl (by kernel_rfl) (by kernel_rfl) (by kernel_rfl) (fun _ _ _ h => h) (Or.inl ⟨by rfl, fun w hSw => by obtain ⟨hS2, hS3⟩ := hSw; go_simp⟩) hS ?_
        simp only [Act.put, List.getElem_toArray, List.getElem_cons_zero, List.getElem_cons_succ, List.setIfInBounds_toArray, List.set_cons_zero, List.set_cons_succ]
        refine wpAnyH_take (i := 2) (v := .slice (some ⟨g, o, none⟩) N cap) rfl (by kernel_rfl) (by kernel_rfl) (by kernel_rfl) (fun _ _ _ h => h) (Or.inl ⟨by rfl, fun w hSw => by obtain ⟨hS2, hS3⟩ := hSw; go_simp⟩) hS ?_
        simp only [Act.put, List.getElem_toArray, List.getElem_cons_zero, List.getElem_cons_succ, List.setIfInBounds_toArray, List.set_cons_zero, List.set_cons_succ]
        refine wpAnyH_take (i := 3) (v := .int .i64 a) rfl (by kernel_rfl) (by kernel_rfl) (by kernel_rfl) (fun _ _ _ h => h) (Or.inl ⟨by rfl, fun w hSw => by obtain ⟨hS2, hS3⟩ := hSw; go_simp⟩) hS ?_
        simp only [Act.put, List.getElem_toArray, List.getElem_cons_zero, List.getElem_cons_succ, List.setIfInBounds_toArray, List.set_cons_zero, List.set_cons_succ]
        refine wpAnyH_take (i := 4) (v := .pointer (some ⟨wr.heap.size, 2, none⟩)) rfl (by kernel_rfl) (by kernel_rfl) (by kernel_rfl) (fun _ _ _ h => h) (Or.inl ⟨by rfl, fun w hSw => by obtain ⟨hS2, hS3⟩ := hSw; go_simp⟩) hS ?_
        simp only [Act.put, List.getElem_toArray, List.getElem_cons_zero, List.getElem_cons_succ, List.setIfInBounds_toArray, List.set_cons_zero, List.set_cons_succ]
        refine wpAnyH_take (i := 5) (v := .int .i64 n) rfl (by kernel_rfl) (by kernel_rfl) (by kernel_rfl) (fun _ _ _ h => h) (Or.inl ⟨by rfl, fun w hSw => by obtain ⟨hS2, hS3⟩ := hSw; go_simp⟩) hS ?_
        simp only [Act.put, List.getElem_toArray, List.getElem_cons_zero, List.getElem_cons_succ, List.setIfInBounds_toArray, List.set_cons_zero, List.set_cons_succ]
        refine wpAnyH_take (i := 6) (v := .int .i64 ((a : Int) + n)) rfl (by kernel_rfl) (by kernel_rfl) (by kernel_rfl) (fun _ _ _ h => h) (Or.inl ⟨by rfl, fun w hSw => by obtain ⟨hS2, hS3⟩ := hSw; go_simp⟩) hS ?_
        simp only [Act.put, List.getElem_toArray, List.getElem_cons_zero, List.getElem_cons_succ, List.setIfInBounds_toArray, List.set_cons_zero, List.set_cons_succ]
        refine wpAnyH_take (i := 7) (v := .pointer (some ⟨wr.heap.size, 3, none⟩)) rfl (by kernel_rfl) (by kernel_rfl) (by kernel_rfl) (fun _ _ _ h => h) (Or.inl ⟨by rfl, fun w hSw => by obtain ⟨hS2, hS3⟩ := hSw; go_simp⟩) hS ?_
        simp only [Act.put, List.getElem_toArray, List.getElem_cons_zero, List.getElem_cons_succ, List.setIfInBounds_toArray, List.set_cons_zero, List.set_cons_succ]
        refine wpAnyH_take (i := 8) (v := .slice adx m cx) rfl (by kernel_rfl) (by kernel_rfl) (by kernel_rfl) (fun _ _ _ h => h) (Or.inl ⟨by rfl, fun w hSw => by obtain ⟨hS2, hS3⟩ := hSw; go_simp⟩) hS ?_
        simp only [Act.put, List.getElem_toArray, List.getElem_cons_zero, List.getElem_cons_succ, List.setIfInBounds_toArray, List.set_cons_zero, List.set_cons_succ]
        refine wpAnyH_take (i := 9) (v := .int .i64 m) rfl (by kernel_rfl) (by kernel_rfl) (by kernel_rfl) (fun _ _ _ h => h) (Or.inl ⟨by rfl, fun w hSw => by obtain ⟨hS2, hS3⟩ := hSw; go_simp⟩) hS ?_
        simp only [Act.put, List.getElem_toArray, List.getElem_cons_zero, List.getElem_cons_succ, List.setIfInBounds_toArray, List.set_cons_zero, List.set_cons_succ]
        refine wpAnyH_take (i := 10) (v := .int .i64 j) rfl (by kernel_rfl) (by kernel_rfl) (by kernel_rfl) (fun _ _ _ h => h) (Or.inl ⟨by rfl, fun w hSw => by obtain ⟨hS2, hS3⟩ := hSw; go_simp⟩) hS ?_
        simp only [Act.put, List.getElem_toArray, List.getElem_cons_zero, List.getElem_cons_succ, List.setIfInBounds_toArray, List.set_cons_zero, List.set_cons_succ]
        refine wpAnyH_take (i := 11) (v := .int .i64 a) rfl (by kernel_rfl) (by kernel_rfl) (by kernel_rfl) (fun _ _ _ h => h) (Or.inl ⟨by rfl, fun w hSw => by obtain ⟨hS2, hS3⟩ := hSw; go_simp⟩) hS ?_
        simp only [Act.put, List.getElem_toArray, List.getElem_cons_zero, List.getElem_cons_succ, List.setIfInBounds_toArray, List.set_cons_zero, List.set_cons_succ]
        refine wpAnyH_take (i := 12) (v := .pointer (some ⟨wr.heap.size, 2, none⟩)) rfl (by kernel_rfl) (by kernel_rfl) (by kernel_rfl) (fun _ _ _ h => h) (Or.inl ⟨by rfl, fun w hSw => by obtain ⟨hS2, hS3⟩ := hSw; go_simp⟩) hS ?_
        simp only [Act.put, List.getElem_toArray, List.getElem_cons_zero, List.getElem_cons_succ, List.setIfInBounds_toArray, List.set_cons_zero, List.set_cons_succ]
        refine wpAnyH_take (i := 13) (v := .int .i64 n) rfl (by kernel_rfl) (by kernel_rfl) (by kernel_rfl) (fun _ _ _ h => h) (Or.inl ⟨by rfl, fun w hSw => by obtain ⟨hS2, hS3⟩ := hSw; go_simp⟩) hS ?_
        simp only [Act.put, List.getElem_toArray, List.getElem_cons_zero, List.getElem_cons_succ, List.setIfInBounds_toArray, List.set_cons_zero, List.set_cons_succ]
        refine wpAnyH_take (i := 14) (v := .int .i64 ((a : Int) + n)) rfl (by kernel_rfl) (by kernel_rfl) (by kernel_rfl) (fun _ _ _ h => h) (Or.inl ⟨by rfl, fun w hSw => by obtain ⟨hS2, hS3⟩ := hSw; go_simp⟩) hS ?_
        simp only [Act.put, List.getElem_toArray, List.getElem_cons_zero, List.getElem_cons_succ, List.setIfInBounds_toArray, List.set_cons_zero, List.set_cons_succ]
        refine wpAnyH_take (i := 15) (v := .slice (some ⟨g, o + x, none⟩) (a + n - j) (cap - j)) rfl (by kernel_rfl) (by kernel_rfl) (by kernel_rfl) (fun _ _ _ h => h) (Or.inl ⟨by rfl, fun w hSw => by obtain ⟨hS2, hS3⟩ := hSw; go_simp; by_cases h : cap = j <;> simp [h, Hx0.out, Hx1.out]⟩) hS ?_
        simp only [Act.put, List.getElem_toArray, List.getElem_cons_zero, List.getElem_cons_succ, List.setIfInBounds_toArray, List.set_cons_zero, List.set_cons_succ]
        refine wpAnyH_ready (rs := [16]) (by kernel_rfl) (by simp) ?_
        refine AllReadyH.cons rfl (fun K hK => ?_) AllReadyH.nil
        go_simp
        refine (same_any _ _ (tl.drop ah) _ KX.out KS.out HL.out).mono ?_
        rintro e w5 ⟨rfl, hB5⟩
        have s2 := (hB5.cell (p := ⟨wr.heap.size, 2, none⟩) hbl).trans hx2
        have s3 := (hB5.cell (p := ⟨wr.heap.size, 3, none⟩) hbl).trans hx3
        have hB5w := hB5
        refine hK.out _ _ ⟨s2, s3⟩ (fun _ => ?_)
        clear hK K
        refine wpAnyH_take (i := 17) (v := .bool true) rfl (by kernel_rfl) (by kernel_rfl) (by kernel_rfl) (fun _ _ _ h => h) (Or.inl ⟨by rfl, fun w hSw => by obtain ⟨hS2, hS3⟩ := hSw; go_simp⟩) ⟨s2, s3⟩ ?_
        simp only [Act.put, List.getElem_toArray, List.getElem_cons_zero, List.getElem_cons_succ, List.setIfInBounds_toArray, List.set_cons_zero, List.set_cons_succ]
        refine wpAnyH_done (by kernel_rfl) ?_ _
        have hBn : Below w3.heap.size w3 w5 := HBx.out.trans (hB5.mono (HBx.out.size))
        have HBn := Lib.hid hBn
        clear hS hx2 hx3 hB5 hB5w hBn hB hbl
        go_wp2_with fail
        clear e2 y1 y2 KX KS HL s3
        go_loop [10] (fun q => ∃ i : Nat, q = .int .i64 i ∧ a ≤ i ∧ i ≤ a + n) (fun q => a + n - (intOf q).toNat)
        case atStart => exact ⟨a, rfl, Nat.le_refl _, by omega⟩
        case round =>
          obtain ⟨i, rfl, hi1, hi2⟩ := hrel
          by_cases hin : i < a + n
          · obtain ⟨t, ht⟩ : ∃ t, ts[i]? = some t := ⟨_, List.getElem?_eq_getElem (by rw [← HN.out]; omega)⟩
            have c0 := ((HC.out i t ht).below HBn.out hg).1
            have hk7 := HNo.out i t hi1 hin ht
            have t1 : (t.kind == 7) = false := by simpa using hk7
            have x1 : (0 : Int) ≤ i := by omega
            have x2 : (i : Int) < N := by omega
            have x3 : (i : Int) < (a : Int) + n := by omega
            clear ht hk7
            go_wp2_with fail
            go_round
            case rel => exact ⟨i + 1, by go_num, by omega, by omega⟩
            case measure => simp [intOf]; omega
          · have x3 : ¬ ((i : Int) < (a : Int) + n) := by omega
            rcases HNx.out with ⟨hend, hp⟩ | ⟨t, ht, h7, hp⟩
            · rw [← HN.out] at hend
              have x4 : ¬ ((a : Int) + n < N) := by omega
              have HP := Lib.hid hp
              clear hp
              go_wp2_with fail
              go_roundw
              case rel => exact ⟨a + n, k + 1, by go_num, by go_num, by omega, HP.out, HBn.out⟩
              case measure => simp [intOf]; omega
            · have hlt2 : a + n < N := by rw [HN.out]; exact (List.getElem?_eq_some_iff.1 ht).1
              have c0 := ((HC.out (a + n) t ht).below HBn.out hg).1
              rw [h7] at c0
              have x4 : (a : Int) + n < N := by omega
              have x5 : (0 : Int) ≤ (a : Int) + n := by omega
              have HP := Lib.hid hp
              clear hp ht h7
              go_wp2_with fail
              go_roundw
              case rel => exact ⟨a + n + 1, k + 1, by go_num, by go_num, by omega, HP.out, HBn.out⟩
              case measure => simp [intOf]; omega
      · have he := Dx.pass_end hps (by rw [← HCt.out]; omega)
        rw [← HN.out] at he
        subst he
        clear hps
        go_wp2_with fail
        go_ret
        exact ⟨rfl, Below.then HB3.out hB⟩
  · go_enter Tryd.func7, Tryd.ntmps7
    go_wp2_with fail
    refine (awake_any _ HG.out).mono ?_
    rintro e w1 ⟨rfl, hB1⟩
    go_wp2_with fail
    go_ret
    exact ⟨rfl, hB1⟩
end Go.Proofs.YtnkheejpmkflaaaDoor
