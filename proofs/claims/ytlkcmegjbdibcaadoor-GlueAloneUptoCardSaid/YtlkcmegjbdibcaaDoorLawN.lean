/- What is proved: GlueAlone answers true, in whatever memory: given the contracts of awake and Paste (at the trial seat; put the real ones in their place). Written by gen/genlawn7.py. -/
import Derived.Test.YtlkcmegjbdibcaaDoorY5
import Derived.Test.YtlkcmegjbdibcaaDoorV4
import Derived.Test.YtlkcmegjbdibcaaDoorW5
namespace Go.Proofs.YtlkcmegjbdibcaaDoor
open Go.RowKit Go.Shelf

set_option maxRecDepth 100000 in
set_option maxHeartbeats 8000000 in
theorem lalone_of (HAW : ∀ w, Glob w → Calls Tryd.prog 8 #[] w (TruePost w))
    (HPA : ∀ (a b : K) (w : World), Glob w → a.text.size ≤ 1000 → b.text.size ≤ 1000 → Calls Tryd.prog 13 #[kAgg a, kAgg b] w fun e w' => e = .returned (pasteV a (oneOf (a.text.data.toList ++ b.text.data.toList))) ∧ Below w.heap.size w w')
    (s : ByteArray) (i k : Int) (hs : s.size ≤ 1000000000) (w : World) (hG : Glob w) : Calls Tryd.prog 7 #[.string s, .int .i64 i, .int .i64 k] w (TruePost w) := by
  have HG := Lib.hid hG
  have HW := Lib.hid HAW
  clear hG HAW
  obtain ⟨ts, hts⟩ : ∃ ts, ts = Gl.toksOf s.data.toList := ⟨_, rfl⟩
  have HTS := Lib.hid hts
  have HTK := Lib.hid (fun w (hG : Glob w) => tokens_any 0 s hs w hG)
  rw [show Lx.tk false (Sp.left 0 s.data.toList) = ts from hts.symm] at HTK
  have g0 : s.data.toList.length = s.size := size_list s
  have hl : ts.length ≤ 1000000000 := by rw [hts]; have := Gl.toksOf_len s.data.toList; omega
  have HL := Lib.hid hl
  obtain ⟨n, hn⟩ : ∃ n, n = ts.length := ⟨_, rfl⟩
  have Hn := Lib.hid hn
  have HP := Lib.hid HPA
  clear hts hl hn HPA
  go_enter Tryd.func7, Tryd.ntmps7
  go_wp2_with fail
  refine (HW.out _ HG.out).mono ?_
  rintro e w0 ⟨rfl, hB0⟩
  go_wp2_with fail
  refine (HTK.out _ (HG.out.later hB0)).mono ?_
  rintro e w1 ⟨tv, rfl, htv, hB1⟩
  have hk := htv.ks
  replace hB1 := Below.then hB0 hB1
  obtain ⟨va, vc, rfl, -, -, -⟩ := id hk
  rw [List.length_map, ← Hn.out] at hk ⊢
  have HB1 := Lib.hid hB1
  have HK := Lib.hid hk
  clear htv hB0 hB1 hk
  by_cases c1 : s.size ≤ 500
  · have y1 : ¬ (500 : Int) < s.size := by omega
    by_cases c2 : i < 0
    · go_wp2_with fail
      go_ret
      exact ⟨rfl, HB1.out⟩
    · by_cases c3 : k < 0
      · go_wp2_with fail
        go_ret
        exact ⟨rfl, HB1.out⟩
      · by_cases c4 : (n : Int) ≤ i
        · go_wp2_with fail
          go_ret
          exact ⟨rfl, HB1.out⟩
        · by_cases c5 : (n : Int) ≤ k
          · go_wp2_with fail
            go_ret
            exact ⟨rfl, HB1.out⟩
          · obtain ⟨p, rfl⟩ : ∃ p : Nat, i = p := ⟨i.toNat, by omega⟩
            obtain ⟨q, rfl⟩ : ∃ q : Nat, k = q := ⟨k.toNat, by omega⟩
            have hp : p < ts.length := by have := Hn.out; omega
            have hq : q < ts.length := by have := Hn.out; omega
            obtain ⟨g, o, hva, -, -, -, hg, hcs⟩ := HK.out.cells (by rw [List.length_map]; omega)
            subst hva
            obtain ⟨ta, hta⟩ : ∃ t, t = ts[p] := ⟨_, rfl⟩
            obtain ⟨tb, htb⟩ : ∃ t, t = ts[q] := ⟨_, rfl⟩
            have ma : ta ∈ Gl.toksOf s.data.toList := by rw [← HTS.out, hta]; exact List.getElem_mem hp
            have mb : tb ∈ Gl.toksOf s.data.toList := by rw [← HTS.out, htb]; exact List.getElem_mem hq
            have hsa := Gl.toksOf_short _ ta ma
            have hsb := Gl.toksOf_short _ tb mb
            have hal := Gl.alone_of s.data.toList ta ma
            rw [g0] at hsa hsb
            obtain ⟨a0, a1, a2, a3, a4, a5⟩ := hcs p (ofT 0 ta) (by rw [List.getElem?_map, List.getElem?_eq_getElem hp, hta]; rfl)
            obtain ⟨b0, b1, b2, b3, b4, b5⟩ := hcs q (ofT 0 tb) (by rw [List.getElem?_map, List.getElem?_eq_getElem hq, htb]; rfl)
            obtain ⟨ak, at_, afr, aen, abl⟩ := ta
            obtain ⟨bk, bt, bfr, ben, bbl⟩ := tb
            unfold ofT at a0 a1 a2 a3 a4 a5 b0 b1 b2 b3 b4 b5
            dsimp only at hal hsa hsb a0 a1 a2 a3 a4 a5 b0 b1 b2 b3 b4 b5
            obtain ⟨A, hA⟩ : ∃ A : ByteArray, A = ⟨at_.toArray⟩ := ⟨_, rfl⟩
            obtain ⟨B, hB⟩ : ∃ B : ByteArray, B = ⟨bt.toArray⟩ := ⟨_, rfl⟩
            have hAd : A.data.toList = at_ := by rw [hA]
            have hBd : B.data.toList = bt := by rw [hB]
            have hAs : A.size ≤ 500 := by rw [← size_list, hAd]; omega
            have hBs : B.size ≤ 500 := by rw [← size_list, hBd]; omega
            rw [← hA] at a1
            rw [← hB] at b1
            have P1 := fun w h => HP.out ⟨ak, A, 0, afr, aen, abl⟩ ⟨bk, B, 0, bfr, ben, bbl⟩ w h (show A.size ≤ 1000 by omega) (show B.size ≤ 1000 by omega)
            have P2 := fun w h => HP.out ⟨ak, A, 0, afr, aen, abl⟩ ⟨0, ⟨#[]⟩, 0, 0, 0, false⟩ w h (show A.size ≤ 1000 by omega) (show (0 : Nat) ≤ 1000 by omega)
            obtain ⟨C, hC⟩ : ∃ C : ByteArray, C = ⟨(A.data.toList ++ B.data.toList).toArray⟩ := ⟨_, rfl⟩
            have had : ∀ W, (Op.stringOp .add A B).run Tryd.prog W = .ok (.string C) W := fun W => add_ba A B C (by omega) (by rw [hC]) W
            dsimp only at P1 P2
            rw [show A.data.toList ++ (ByteArray.mk #[]).data.toList = at_ by rw [hAd]; exact List.append_nil _] at P2
            have hone : oneOf (A.data.toList ++ B.data.toList) = none ∨ ∃ x, oneOf (A.data.toList ++ B.data.toList) = some x ∧ (ByteArray.mk x.text.toArray) = C := by
              cases h : oneOf (A.data.toList ++ B.data.toList) with
              | none => exact .inl rfl
              | some x => exact .inr ⟨x, rfl, by rw [hC, Gl.one_whole h]⟩
            have y2 : (0 : Int) ≤ p := by omega
            have y3 : (p : Int) < n := by omega
            have y4 : (0 : Int) ≤ q := by omega
            have y5 : (q : Int) < n := by omega
            have hln : n ≤ 500 := by have := Gl.toksOf_len s.data.toList; rw [← HTS.out, ← Hn.out] at this; omega
            unfold kAgg at P1 P2
            dsimp only at P1 P2
            have HA2 := Lib.hid hA
            clear hta htb ma mb hsa hsb hcs hC hBd hp hq hA hB g0
            have HAL := Lib.hid hal
            have HONE := Lib.hid hone
            have HP1 := Lib.hid P1
            have HP2 := Lib.hid P2
            have HAD := Lib.hid hAd
            clear hal hone P1 P2 hAd c1 c2 c3 c4 c5
            go_wp2_with fail
            have hBV := (HB1.out.alloc HB1.out.size (.cells #[.int .i64 ak, .string A, .int .i64 0, .int .i64 afr, .int .i64 aen, .bool abl] 26)).alloc (Nat.le_trans HB1.out.size (by simp)) (.cells #[.int .i64 bk, .string B, .int .i64 0, .int .i64 bfr, .int .i64 ben, .bool bbl] 26)
            have ka := heap_alloc_new w1 (.cells #[.int .i64 ak, .string A, .int .i64 0, .int .i64 afr, .int .i64 aen, .bool abl] 26)
            replace ka := (Below.heap_alloc _ (.cells #[.int .i64 bk, .string B, .int .i64 0, .int .i64 bfr, .int .i64 ben, .bool bbl] 26) _ (lt_of_block ka)).trans ka
            have kb := heap_alloc_new (w1.alloc (.cells #[.int .i64 ak, .string A, .int .i64 0, .int .i64 afr, .int .i64 aen, .bool abl] 26)) (.cells #[.int .i64 bk, .string B, .int .i64 0, .int .i64 bfr, .int .i64 ben, .bool bbl] 26)
            rw [World.size_alloc] at kb
            generalize (w1.alloc (.cells #[.int .i64 ak, .string A, .int .i64 0, .int .i64 afr, .int .i64 aen, .bool abl] 26)).alloc (.cells #[.int .i64 bk, .string B, .int .i64 0, .int .i64 bfr, .int .i64 ben, .bool bbl] 26) = V at hBV ka kb ⊢
            have HBV := Lib.hid hBV
            have KA := Lib.hid ka
            have KB := Lib.hid kb
            clear hBV ka kb a0 a1 a2 a3 a4 a5 b0 b1 b2 b3 b4 b5
            rcases HONE.out with h1 | ⟨x, h1, hxC⟩
            · have P1 := HP1.out
              rw [h1] at P1
              unfold pasteV at P1
              dsimp only at P1
              clear h1
              refine (P1 _ (HG.out.later HBV.out)).mono ?_
              rintro e w2 ⟨rfl, hB2⟩
              have ka := (hB2.block _ (lt_of_block KA.out)).trans KA.out
              have kb := (hB2.block _ (lt_of_block KB.out)).trans KB.out
              replace hB2 := Below.then HBV.out hB2
              have hB3 := hB2.alloc hB2.size (.cells #[.int .i64 0, .string ⟨#[]⟩, .int .i64 0, .int .i64 0, .int .i64 0, .bool false] 26)
              replace ka := (Below.heap_alloc w2 (.cells #[.int .i64 0, .string ⟨#[]⟩, .int .i64 0, .int .i64 0, .int .i64 0, .bool false] 26) _ (lt_of_block ka)).trans ka
              replace kb := (Below.heap_alloc w2 (.cells #[.int .i64 0, .string ⟨#[]⟩, .int .i64 0, .int .i64 0, .int .i64 0, .bool false] 26) _ (lt_of_block kb)).trans kb
              have kx := heap_alloc_new w2 (.cells #[.int .i64 0, .string ⟨#[]⟩, .int .i64 0, .int .i64 0, .int .i64 0, .bool false] 26)
              have HB3 := Lib.hid hB3
              have KA2 := Lib.hid ka
              have KB2 := Lib.hid kb
              have KX2 := Lib.hid kx
              obtain ⟨a0, a1, a2, a3, a4, a5⟩ := box6_cells ka
              obtain ⟨b0, b1, b2, b3, b4, b5⟩ := box6_cells kb
              clear hB2 hB3 ka kb kx P1
              go_wp2_with fail
              clear a0 a1 a2 a3 a4 a5 b0 b1 b2 b3 b4 b5
              rcases HAL.out with ⟨h7, y, h2, hyk, hyt⟩ | ⟨h7, h2⟩
              · have P2 := HP2.out
                rw [h2] at P2
                unfold pasteV at P2
                dsimp only at P2
                rw [hyk, hyt, ← HA2.out] at P2
                have z1 : ((ak : Int) == 7) = false := by rw [beq_eq_false_iff_ne]; omega
                have H7 := Lib.hid h7
                clear h2 h7 hyk hyt
                refine (P2 _ (HG.out.later HB3.out)).mono ?_
                rintro e w3 ⟨rfl, hB4⟩
                have ka := (hB4.block _ (lt_of_block KA2.out)).trans KA2.out
                have kb := (hB4.block _ (lt_of_block KB2.out)).trans KB2.out
                have kx := (hB4.block _ (lt_of_block KX2.out)).trans KX2.out
                replace hB4 := Below.then HB3.out hB4
                have hB5 := hB4.alloc hB4.size (.cells #[.int .i64 ak, .string A, .int .i64 0, .int .i64 afr, .int .i64 aen, .bool abl] 26)
                replace ka := (Below.heap_alloc w3 (.cells #[.int .i64 ak, .string A, .int .i64 0, .int .i64 afr, .int .i64 aen, .bool abl] 26) _ (lt_of_block ka)).trans ka
                replace kb := (Below.heap_alloc w3 (.cells #[.int .i64 ak, .string A, .int .i64 0, .int .i64 afr, .int .i64 aen, .bool abl] 26) _ (lt_of_block kb)).trans kb
                replace kx := (Below.heap_alloc w3 (.cells #[.int .i64 ak, .string A, .int .i64 0, .int .i64 afr, .int .i64 aen, .bool abl] 26) _ (lt_of_block kx)).trans kx
                have ky := heap_alloc_new w3 (.cells #[.int .i64 ak, .string A, .int .i64 0, .int .i64 afr, .int .i64 aen, .bool abl] 26)
                have HB5 := Lib.hid hB5
                obtain ⟨a0c, a1c, a2c, a3c, a4c, a5c⟩ := box6_cells ka
                obtain ⟨b0c, b1c, b2c, b3c, b4c, b5c⟩ := box6_cells kb
                obtain ⟨x0c, x1c, x2c, x3c, x4c, x5c⟩ := box6_cells kx
                obtain ⟨d0c, d1c, d2c, d3c, d4c, d5c⟩ := box6_cells ky
                clear hB4 hB5 ka kb kx ky P2
                go_wp2_with fail
                · rename_i hh
                  exact absurd (show ak = 7 by omega) H7.out
                · rename_i hh
                  go_ret
                  exact ⟨by simp [hh], HB5.out⟩
              · have P2 := HP2.out
                rw [h2] at P2
                unfold pasteV at P2
                dsimp only at P2
                have z1 : ((ak : Int) == 7) = true := by rw [beq_iff_eq]; omega
                clear h2 h7
                refine (P2 _ (HG.out.later HB3.out)).mono ?_
                rintro e w3 ⟨rfl, hB4⟩
                have ka := (hB4.block _ (lt_of_block KA2.out)).trans KA2.out
                have kb := (hB4.block _ (lt_of_block KB2.out)).trans KB2.out
                have kx := (hB4.block _ (lt_of_block KX2.out)).trans KX2.out
                replace hB4 := Below.then HB3.out hB4
                have hB5 := hB4.alloc hB4.size (.cells #[.int .i64 0, .string ⟨#[]⟩, .int .i64 0, .int .i64 0, .int .i64 0, .bool false] 26)
                replace ka := (Below.heap_alloc w3 (.cells #[.int .i64 0, .string ⟨#[]⟩, .int .i64 0, .int .i64 0, .int .i64 0, .bool false] 26) _ (lt_of_block ka)).trans ka
                replace kb := (Below.heap_alloc w3 (.cells #[.int .i64 0, .string ⟨#[]⟩, .int .i64 0, .int .i64 0, .int .i64 0, .bool false] 26) _ (lt_of_block kb)).trans kb
                replace kx := (Below.heap_alloc w3 (.cells #[.int .i64 0, .string ⟨#[]⟩, .int .i64 0, .int .i64 0, .int .i64 0, .bool false] 26) _ (lt_of_block kx)).trans kx
                have ky := heap_alloc_new w3 (.cells #[.int .i64 0, .string ⟨#[]⟩, .int .i64 0, .int .i64 0, .int .i64 0, .bool false] 26)
                have HB5 := Lib.hid hB5
                obtain ⟨a0c, a1c, a2c, a3c, a4c, a5c⟩ := box6_cells ka
                obtain ⟨b0c, b1c, b2c, b3c, b4c, b5c⟩ := box6_cells kb
                obtain ⟨x0c, x1c, x2c, x3c, x4c, x5c⟩ := box6_cells kx
                obtain ⟨d0c, d1c, d2c, d3c, d4c, d5c⟩ := box6_cells ky
                clear hB4 hB5 ka kb kx ky P2
                go_wp2_with fail
                go_ret
                exact ⟨by simp, HB5.out⟩
            · have P1 := HP1.out
              rw [h1] at P1
              unfold pasteV at P1
              dsimp only at P1
              rw [hxC] at P1
              clear h1 hxC
              refine (P1 _ (HG.out.later HBV.out)).mono ?_
              rintro e w2 ⟨rfl, hB2⟩
              have ka := (hB2.block _ (lt_of_block KA.out)).trans KA.out
              have kb := (hB2.block _ (lt_of_block KB.out)).trans KB.out
              replace hB2 := Below.then HBV.out hB2
              have hB3 := hB2.alloc hB2.size (.cells #[.int .i64 x.kind, .string C, .int .i64 0, .int .i64 afr, .int .i64 aen, .bool abl] 26)
              replace ka := (Below.heap_alloc w2 (.cells #[.int .i64 x.kind, .string C, .int .i64 0, .int .i64 afr, .int .i64 aen, .bool abl] 26) _ (lt_of_block ka)).trans ka
              replace kb := (Below.heap_alloc w2 (.cells #[.int .i64 x.kind, .string C, .int .i64 0, .int .i64 afr, .int .i64 aen, .bool abl] 26) _ (lt_of_block kb)).trans kb
              have kx := heap_alloc_new w2 (.cells #[.int .i64 x.kind, .string C, .int .i64 0, .int .i64 afr, .int .i64 aen, .bool abl] 26)
              have HB3 := Lib.hid hB3
              have KA2 := Lib.hid ka
              have KB2 := Lib.hid kb
              have KX2 := Lib.hid kx
              obtain ⟨a0, a1, a2, a3, a4, a5⟩ := box6_cells ka
              obtain ⟨b0, b1, b2, b3, b4, b5⟩ := box6_cells kb
              clear hB2 hB3 ka kb kx P1
              go_wp2_with fail
              clear a0 a1 a2 a3 a4 a5 b0 b1 b2 b3 b4 b5
              rcases HAL.out with ⟨h7, y, h2, hyk, hyt⟩ | ⟨h7, h2⟩
              · have P2 := HP2.out
                rw [h2] at P2
                unfold pasteV at P2
                dsimp only at P2
                rw [hyk, hyt, ← HA2.out] at P2
                have z1 : ((ak : Int) == 7) = false := by rw [beq_eq_false_iff_ne]; omega
                have H7 := Lib.hid h7
                clear h2 h7 hyk hyt
                refine (P2 _ (HG.out.later HB3.out)).mono ?_
                rintro e w3 ⟨rfl, hB4⟩
                have ka := (hB4.block _ (lt_of_block KA2.out)).trans KA2.out
                have kb := (hB4.block _ (lt_of_block KB2.out)).trans KB2.out
                have kx := (hB4.block _ (lt_of_block KX2.out)).trans KX2.out
                replace hB4 := Below.then HB3.out hB4
                have hB5 := hB4.alloc hB4.size (.cells #[.int .i64 ak, .string A, .int .i64 0, .int .i64 afr, .int .i64 aen, .bool abl] 26)
                replace ka := (Below.heap_alloc w3 (.cells #[.int .i64 ak, .string A, .int .i64 0, .int .i64 afr, .int .i64 aen, .bool abl] 26) _ (lt_of_block ka)).trans ka
                replace kb := (Below.heap_alloc w3 (.cells #[.int .i64 ak, .string A, .int .i64 0, .int .i64 afr, .int .i64 aen, .bool abl] 26) _ (lt_of_block kb)).trans kb
                replace kx := (Below.heap_alloc w3 (.cells #[.int .i64 ak, .string A, .int .i64 0, .int .i64 afr, .int .i64 aen, .bool abl] 26) _ (lt_of_block kx)).trans kx
                have ky := heap_alloc_new w3 (.cells #[.int .i64 ak, .string A, .int .i64 0, .int .i64 afr, .int .i64 aen, .bool abl] 26)
                have HB5 := Lib.hid hB5
                obtain ⟨a0c, a1c, a2c, a3c, a4c, a5c⟩ := box6_cells ka
                obtain ⟨b0c, b1c, b2c, b3c, b4c, b5c⟩ := box6_cells kb
                obtain ⟨x0c, x1c, x2c, x3c, x4c, x5c⟩ := box6_cells kx
                obtain ⟨d0c, d1c, d2c, d3c, d4c, d5c⟩ := box6_cells ky
                clear hB4 hB5 ka kb kx ky P2
                go_wp2_with fail
                · rename_i hh
                  exact absurd (show ak = 7 by omega) H7.out
                · rename_i hh
                  go_ret
                  exact ⟨by simp [hh], HB5.out⟩
              · have P2 := HP2.out
                rw [h2] at P2
                unfold pasteV at P2
                dsimp only at P2
                have z1 : ((ak : Int) == 7) = true := by rw [beq_iff_eq]; omega
                clear h2 h7
                refine (P2 _ (HG.out.later HB3.out)).mono ?_
                rintro e w3 ⟨rfl, hB4⟩
                have ka := (hB4.block _ (lt_of_block KA2.out)).trans KA2.out
                have kb := (hB4.block _ (lt_of_block KB2.out)).trans KB2.out
                have kx := (hB4.block _ (lt_of_block KX2.out)).trans KX2.out
                replace hB4 := Below.then HB3.out hB4
                have hB5 := hB4.alloc hB4.size (.cells #[.int .i64 0, .string ⟨#[]⟩, .int .i64 0, .int .i64 0, .int .i64 0, .bool false] 26)
                replace ka := (Below.heap_alloc w3 (.cells #[.int .i64 0, .string ⟨#[]⟩, .int .i64 0, .int .i64 0, .int .i64 0, .bool false] 26) _ (lt_of_block ka)).trans ka
                replace kb := (Below.heap_alloc w3 (.cells #[.int .i64 0, .string ⟨#[]⟩, .int .i64 0, .int .i64 0, .int .i64 0, .bool false] 26) _ (lt_of_block kb)).trans kb
                replace kx := (Below.heap_alloc w3 (.cells #[.int .i64 0, .string ⟨#[]⟩, .int .i64 0, .int .i64 0, .int .i64 0, .bool false] 26) _ (lt_of_block kx)).trans kx
                have ky := heap_alloc_new w3 (.cells #[.int .i64 0, .string ⟨#[]⟩, .int .i64 0, .int .i64 0, .int .i64 0, .bool false] 26)
                have HB5 := Lib.hid hB5
                obtain ⟨a0c, a1c, a2c, a3c, a4c, a5c⟩ := box6_cells ka
                obtain ⟨b0c, b1c, b2c, b3c, b4c, b5c⟩ := box6_cells kb
                obtain ⟨x0c, x1c, x2c, x3c, x4c, x5c⟩ := box6_cells kx
                obtain ⟨d0c, d1c, d2c, d3c, d4c, d5c⟩ := box6_cells ky
                clear hB4 hB5 ka kb kx ky P2
                go_wp2_with fail
                go_ret
                exact ⟨by simp, HB5.out⟩
  · have y1 : (500 : Int) < s.size := by omega
    go_wp2_with fail
    go_ret
    exact ⟨rfl, HB1.out⟩
end Go.Proofs.YtlkcmegjbdibcaaDoor
