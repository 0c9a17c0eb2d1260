/- What is proved: what strconv's ParseUint tells of digits of 8, in 63 bits. (and what stands with it) -/
import Derived.Test.YthekfpgegiffoaaGreatDoorQo
import Derived.Lib.ConvBytes
import Derived.Laws.Closers25
import Derived.Laws.Closers25b
set_option linter.unusedSimpArgs false
set_option linter.unusedVariables false
set_option maxHeartbeats 16000000
set_option maxRecDepth 100000
namespace Go.Proofs.YthekfpgegiffoaaGreatDoor
section
open Go.RowKit Go.Shelf
theorem pu_8 (t : ByteArray) (hne : t.size ≠ 0) (hmax : t.size ≤ 1000000) (w : World) : Calls Tryz.prog 310 #[.string t, .int .i64 8, .int .i64 63] w (PuPost w (Ie.pu 8 0 t.data.toList)):=by
 have hemp : (t.toList == []) = false:=lit_no (fun h => hne (by rw [h]; rfl))
 have hcv:=Lib.run_convert_string_bytes (P:=Tryz.prog) w 9 204 5 t (u:=.string) Tryz.underlying9 Tryz.underlying204 Tryz.underlying5
 have hB : ∀ j,j < t.size → (Lib.bytesWorld w 5 t).cell? ⟨w.heap.size,j,none⟩ = some (.int .u8 (t.data.toList.getD j 0).toNat):=fun j hj => Lib.bytesWorld_cell w 5 t j hj
 have hBel:=bytes_below w t 5
 obtain ⟨W1,hW1⟩ : ∃ W1,W1 = Lib.bytesWorld w 5 t:=⟨_,rfl⟩
 rw [← hW1] at hcv hB hBel
 clear hW1
 obtain ⟨bs,hL⟩ : ∃ bs,bs = t.data.toList:=⟨_,rfl⟩
 have hLn : bs.length = t.size:=by rw [hL,Lib.size_eq]
 rw [← hL] at hB ⊢
 obtain ⟨n,hn⟩ : ∃ n,n = t.size:=⟨_,rfl⟩
 rw [← hn] at hLn hB hmax hne
 obtain ⟨S,hS⟩ : ∃ S,S = Ie.pu 8 0 bs:=⟨_,rfl⟩
 rw [← hS]
 have HS:=Lib.hid hS
 have HBB:=Lib.hid hB
 have HBel:=Lib.hid hBel
 have HLn:=Lib.hid hLn
 have hmv : IntKind.u64.wrap (IntKind.u64.wrap 9223372036854775808 - 1) = 9223372036854775807:=by
  rw [IntKind.wrap_u64,IntKind.wrap_u64]
  decide
 clear hL hB hBel hLn hS
 go_enter Tryz.func310,Tryz.ntmps310
 go_wp2_with fail
 go_loop [12,13,101] (fun vu vn vi => ∃ (k acc : Nat) (a : Int),vu = .bool false ∧ vn = .int .u64 a ∧ vi = .int .i64 k ∧ k ≤ n ∧ Hid (a = (acc : Int) ∧ acc ≤ 9223372036854775807 ∧ S = Ie.pu 8 acc (bs.drop k)))
  (fun _ _ vi => n - (intOf vi).toNat)
 case atStart => exact ⟨0,0,0,rfl,rfl,rfl,by omega,Lib.hid ⟨rfl,by omega,HS.out⟩⟩
 case round =>
  obtain ⟨k,acc,a,rfl,rfl,rfl,hk,hh⟩:=hrel
  obtain ⟨ha,hacc,hdec⟩:=hh.out
  clear hh
  have a0 : 0 ≤ a:=by omega
  have a1 : a ≤ 9223372036854775807:=by omega
  by_cases hkn : k < n
  ·have hc:=HBB.out k hkn
   have hkl : k < bs.length:=by rw [HLn.out]; exact hkn
   have hdrop : bs.drop k = bs[k]'hkl :: bs.drop (k + 1):=List.drop_eq_getElem_cons hkl
   have hget : bs.getD k 0 = bs[k]'hkl:=by simp [List.getD,List.getElem?_eq_getElem hkl]
   rw [hdrop] at hdec
   rw [hget] at hc
   generalize bs[k]'hkl = c at hc hdec
   have hc256 : c.toNat < 256:=c.toNat_lt
   obtain ⟨⟨lb0,lb1⟩,hcase⟩:=low_cases c
   have KL:=Lib.hid (lower_any c)
   have hpc : Ie.pu 8 acc (c :: bs.drop (k + 1)) = if Ie.dig c < 8 then (if Ie.most < acc * 8 + Ie.dig c then .rng else Ie.pu 8 (acc * 8 + Ie.dig c) (bs.drop (k + 1))) else .syn:=rfl
   rw [hpc] at hdec
   obtain ⟨D,hD⟩ : ∃ D,D = Ie.dig c:=⟨_,rfl⟩
   obtain ⟨L,hL⟩ : ∃ L,L = lowB c:=⟨_,rfl⟩
   rw [← hD] at hdec
   rw [← hD,← hL] at hcase
   rw [← hL] at lb0 lb1
   have KL2 : Hid (∀ w,Calls Tryz.prog 323 #[.int .u8 c.toNat] w fun e w' => e = .returned (.int .u8 L) ∧ w' = w):=Lib.hid (by rw [hL]; exact lower_any c)
   clear hdrop hget hkl hpc hD hL KL
   obtain ⟨C,hC⟩ : ∃ C : Int,C = c.toNat:=⟨_,rfl⟩
   rw [← hC] at hc KL2
   have hC0 : 0 ≤ C:=by omega
   have hC1 : C ≤ 255:=by omega
   have hwr1 : ∀ x : Int,0 ≤ x → x ≤ 18446744073709551615 → IntKind.u64.wrap x = x:=fun x h0 h1 => by rw [IntKind.wrap_u64]; omega
   have HWR:=Lib.hid hwr1
   clear hwr1
   -- the digit d,whatever the way that it came
   rcases hcase with ⟨c0,c1,hd⟩ | ⟨c0,c1,l0,l1,hd⟩ | ⟨c0,c1,l0,l1,hd⟩ | ⟨c0,l0,hd⟩
   ·have i0 : 48 ≤ C:=by omega
    have i1 : C ≤ 57:=by omega
    have hd' : (D : Int) = C - 48:=by omega
    clear hC c0 c1 hc256
    by_cases hlt : D < 8
    ·rw [if_pos hlt] at hdec
     have j1 : C < 56:=by omega
     by_cases hcut : 2305843009213693952 ≤ a
     ·have hr : Ie.most < acc * 8 + D:=by unfold Ie.most; omega
      rw [if_pos hr] at hdec
      have HD:=Lib.hid hdec
      clear hdec hr hlt ha hacc hd hd'
      go_wp2_with fail
      go_ret2
      exact ⟨by rw [HD.out]; rfl,HBel.out⟩
     have q1 : IntKind.u64.wrap (a * 8) = a * 8:=HWR.out _ (by omega) (by omega)
     by_cases hov : 9223372036854775807 < a * 8 + (C - 48)
     ·have hr : Ie.most < acc * 8 + D:=by unfold Ie.most; omega
      rw [if_pos hr] at hdec
      have HD:=Lib.hid hdec
      clear hdec hr hlt ha hacc hd hd'
      by_cases hbig : a * 8 + (C - 48) ≤ 18446744073709551615
      ·have q2 : IntKind.u64.wrap (a * 8 + (C - 48)) = a * 8 + (C - 48):=HWR.out _ (by omega) hbig
       go_wp2_with fail
       go_ret2
       exact ⟨by rw [HD.out]; rfl,HBel.out⟩
      ·exact absurd (by omega) hbig
     have q2 : IntKind.u64.wrap (a * 8 + (C - 48)) = a * 8 + (C - 48):=HWR.out _ (by omega) (by omega)
     have hr : ¬ Ie.most < acc * 8 + D:=by unfold Ie.most; omega
     rw [if_neg hr] at hdec
     have HN : Hid (a * 8 + (C - 48) = ((acc * 8 + D : Nat) : Int) ∧ acc * 8 + D ≤ 9223372036854775807 ∧ S = Ie.pu 8 (acc * 8 + D) (bs.drop (k + 1))):=Lib.hid ⟨by omega,by unfold Ie.most at hr; omega,hdec⟩
     clear hdec hr hlt ha hacc hd hd'
     go_wp2_with fail
     go_round
     case rel => exact ⟨k + 1,acc * 8 + D,a * 8 + (C - 48),rfl,(by first | rfl | (congr 1; omega)),(by first | rfl | (congr 1; omega)),by omega,HN⟩
     case measure => simp [intOf]; omega
    ·rw [if_neg hlt] at hdec
     have HD:=Lib.hid hdec
     have j1 : 56 ≤ C:=by omega
     clear hdec hlt hd hd' ha hacc
     go_wp2_with fail
     go_ret2
     exact ⟨by rw [HD.out]; rfl,HBel.out⟩
   ·have i0 : C < 48 ∨ 57 < C:=by omega
    have i2 : ¬ C = 95:=by omega
    have i1 : ¬ (48 ≤ C ∧ C ≤ 57):=by omega
    clear hC c0 c1 hc256
    have hlt : ¬ D < 8:=by omega
    ·rw [if_neg hlt] at hdec
     have HD:=Lib.hid hdec
     have j1 : 95 ≤ L:=by omega
     clear hdec hlt hd ha hacc
     rcases i0 with i0 | i0
     all_goals
      go_wp2_with fail
      refine (KL2.out _).mono ?_
      rintro e w' ⟨rfl,rfl⟩
      go_wp2_with fail
      refine (KL2.out _).mono ?_
      rintro e w' ⟨rfl,rfl⟩
      go_wp2_with fail
      refine (KL2.out _).mono ?_
      rintro e w' ⟨rfl,rfl⟩
      go_wp2_with fail
      go_ret2
      exact ⟨by rw [HD.out]; rfl,HBel.out⟩
   ·have i0 : C < 48 ∨ 57 < C:=by omega
    have i2 : ¬ C = 95:=by omega
    rw [if_neg (by omega)] at hdec
    have HD:=Lib.hid hdec
    clear hC c0 c1 hc256 hdec ha hacc hd
    rcases i0 with i0 | i0
    all_goals
     go_wp2_with fail
     refine (KL2.out _).mono ?_
     rintro e w' ⟨rfl,rfl⟩
     go_wp2_with fail
     refine (KL2.out _).mono ?_
     rintro e w' ⟨rfl,rfl⟩
     go_wp2_with fail
     refine (KL2.out _).mono ?_
     rintro e w' ⟨rfl,rfl⟩
     go_wp2_with fail
     go_ret2
     exact ⟨by rw [HD.out]; rfl,HBel.out⟩
   ·have i0 : C < 48 ∨ 57 < C:=by omega
    rw [if_neg (by omega)] at hdec
    have HD:=Lib.hid hdec
    clear hC c0 hc256 hdec ha hacc hd
    have hcb : (C == 95) = true ∨ (C == 95) = false:=by cases C == 95 <;> simp
    have l2 : L < 97 ∨ 122 < L:=by omega
    clear l0
    rcases i0 with i0 | i0
    all_goals
     rcases hcb with hcb | hcb
     all_goals
      rcases l2 with l2 | l2
      all_goals
       go_wp2_with (first | (refine (KL2.out _).mono ?_; rintro e w' ⟨rfl,rfl⟩))
       go_ret2
       exact ⟨by rw [HD.out]; rfl,HBel.out⟩
  ·obtain rfl : k = n:=by omega
   rw [List.drop_eq_nil_of_le (by rw [HLn.out]; exact Nat.le_refl _)] at hdec
   have HD:=Lib.hid hdec
   have HA:=Lib.hid ha
   clear hdec ha hacc
   go_wp2_with fail
   go_ret2
   refine ⟨?_,HBel.out⟩
   rw [HD.out]
   show _ = Ending.returned (.tuple #[.int .u64 (acc : Int), .nilIface])
   rw [← HA.out]
   rfl
end
end Go.Proofs.YthekfpgegiffoaaGreatDoor
