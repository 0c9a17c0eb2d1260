/- The document's own Tokens, what tpl8 had left out. (and what stands with it) -/
import Derived.Test.YthekfpgegiffoaaGreatDoorQx
set_option linter.unusedSimpArgs false
set_option linter.unusedVariables false
set_option maxHeartbeats 16000000
set_option maxRecDepth 100000
namespace Go.Proofs.YthekfpgegiffoaaGreatDoor
section
open Go.RowKit Go.Shelf
open Lx (T)
theorem quoted_any (s : ByteArray) (i : Nat) (hs : s.size ≤ 4000000000) (hi : i < s.size) (q : UInt8) (hq1 : q ≠ 10) (hq2 : q ≠ 92) (w : World) :
  Calls Tryz.prog 173 #[.string s, .int .i64 i, .int .u8 q.toNat] w fun e w' => e = .returned (.int .i64 (rq q (s.data.toList.drop i))) ∧ w = w':=by
 have hd0:=drop_at s i hi
 obtain ⟨Z,hZ⟩ : ∃ Z,Z = Lx.closedLen q (s.data.toList.drop i):=⟨_,rfl⟩
 obtain ⟨R,hR⟩ : ∃ R,R = rq q (s.data.toList.drop i):=⟨_,rfl⟩
 rw [← hR]
 unfold rq at hR
 rw [← hZ] at hR
 have HR:=Lib.hid hR
 clear hR
 by_cases hq : s[i] = q
 ·have hcl : Z = Lx.upto 1 (Lx.qr q (s.data.toList.drop (i + 1))):=by
   rw [hZ]
   conv => lhs; rw [hd0]
   rw [Lx.closedLen_cons,if_pos hq]
  have HZ:=Lib.hid hcl
  have t0 : ((s[i].toNat : Int) == (q.toNat : Int)) = true:=u8_eq hq
  have t0' : ((s[i].toNat : Int) != (q.toNat : Int)) = false:=by simp [bne,t0]
  clear hcl hd0 hq hZ
  go_enter Tryz.func173,Tryz.ntmps173
  go_wp2_with fail
  go_loop [7] (fun n => ∃ k : Nat,n = .int .i64 k ∧ 1 ≤ k ∧ i + k ≤ s.size ∧ Z = Lx.upto k (Lx.qr q (s.data.toList.drop (i + k)))) (fun n => s.size - (intOf n).toNat)
  case atStart => exact ⟨1,rfl,Nat.le_refl _,by omega,HZ.out⟩
  case round =>
   obtain ⟨k,rfl,hk1,hk,he⟩:=hrel
   have HE:=Lib.hid he
   clear he t0 t0'
   by_cases hlt : i + k < s.size
   ·have hd:=Lib.hid (drop_at s (i + k) hlt)
    by_cases hnl : s[i + k] = 10
    ·have t1 : ((s[i + k].toNat : Int) == 10) = true:=u8_eq hnl
     have t2 : ((s[i + k].toNat : Int) != 10) = false:=by simp [bne,t1]
     have HN:=Lib.hid hnl
     clear hnl
     go_wp2_with fail
     go_ret
     refine ⟨ret_int ?_,rfl⟩
     have hz : Z = 0:=by rw [HE.out,hd.out,HN.out,qr_nl]; rfl
     rw [HR.out,hz]; simp
    ·have t1 : ((s[i + k].toNat : Int) == 10) = false:=u8_ne hnl
     have t2 : ((s[i + k].toNat : Int) != 10) = true:=by simp [bne,t1]
     by_cases hqq : s[i + k] = q
     ·have t3 : ((s[i + k].toNat : Int) == (q.toNat : Int)) = true:=u8_eq hqq
      have hz : Z = k + 1:=by rw [HE.out,hd.out,hqq,qr_hit q _ hq1]; rfl
      have HN:=Lib.hid hz
      clear hnl hqq hz
      by_cases h39 : q = 39
      ·have t4 : ((q.toNat : Int) == 39) = true:=u8_eq h39
       have H39:=Lib.hid h39
       clear h39
       by_cases hk2 : k = 1
       ·have t5 : ((k : Int) == 1) = true:=by rw [hk2]; rfl
        have HK:=Lib.hid hk2
        clear hk2
        go_wp2_with fail
        go_ret
        exact ⟨ret_int (by rw [HR.out,if_pos ⟨H39.out,by rw [HN.out,HK.out]⟩]; rfl),rfl⟩
       ·have t5 : ((k : Int) == 1) = false:=by rw [beq_eq_false_iff_ne]; omega
        go_wp2_with fail
        go_ret
        exact ⟨ret_int (by rw [HR.out,if_neg (fun h => by have:=h.2; rw [HN.out] at this; omega),HN.out]; simp),rfl⟩
      ·have t4 : ((q.toNat : Int) == 39) = false:=u8_ne h39
       have H39:=Lib.hid h39
       clear h39
       have hx : ((k : Int) == 1) = true ∨ ((k : Int) == 1) = false:=by cases ((k : Int) == 1) <;> simp
       rcases hx with t5 | t5
       all_goals
        go_wp2_with fail
        go_ret
        exact ⟨ret_int (by rw [HR.out,if_neg (fun h => H39.out h.1),HN.out]; simp),rfl⟩
     ·have t3 : ((s[i + k].toNat : Int) == (q.toNat : Int)) = false:=u8_ne hqq
      by_cases hbs : s[i + k] = 92
      ·have t4 : ((s[i + k].toNat : Int) == 92) = true:=u8_eq hbs
       have HB:=Lib.hid hbs
       clear hbs hnl hqq
       by_cases hl2 : i + k + 1 < s.size
       ·have hd2:=Lib.hid (drop_at s (i + k + 1) hl2)
        have hx2 : s[i + k + 1] = s[i + (k + 1)]:=rfl
        by_cases hn2 : s[i + (k + 1)] = 10
        ·have t5 : ((s[i + (k + 1)].toNat : Int) == 10) = true:=u8_eq hn2
         have hz : Z = 0:=by rw [HE.out,hd.out,HB.out,hd2.out,hx2,hn2,qr_esc_nl q _ hq2]; rfl
         have HN:=Lib.hid hz
         clear hn2 hx2 hz
         go_wp2_with fail
         go_ret
         exact ⟨ret_int (by rw [HR.out,HN.out]; simp),rfl⟩
        ·have t5 : ((s[i + (k + 1)].toNat : Int) == 10) = false:=u8_ne hn2
         have hz : Z = Lx.upto (k + 2) (Lx.qr q (s.data.toList.drop (i + (k + 2)))):=by
          rw [HE.out,hd.out,HB.out,hd2.out,hx2,qr_esc q _ _ hq2 hn2,upto_map,show i + (k + 2) = i + k + 1 + 1 by omega]
         have HN:=Lib.hid hz
         clear hn2 hx2 hz
         go_wp2_with fail
         go_round
         case rel => exact ⟨k + 2,by go_num,by omega,by omega,HN.out⟩
         case measure => simp [intOf]; omega
       ·have hd2:=Lib.hid (drop_end s (i + k + 1) (by omega))
        have hz : Z = 0:=by rw [HE.out,hd.out,HB.out,hd2.out,qr_esc_end q hq2]; rfl
        have HN:=Lib.hid hz
        clear hz
        go_wp2_with fail
        go_ret
        exact ⟨ret_int (by rw [HR.out,HN.out]; simp),rfl⟩
      ·have t4 : ((s[i + k].toNat : Int) == 92) = false:=u8_ne hbs
       have HN:=Lib.hid (And.intro hnl (And.intro hqq hbs))
       clear hnl hqq hbs
       go_wp2_with fail
       go_round
       case rel => exact ⟨k + 1,by go_num,by omega,by omega,by rw [HE.out,hd.out,qr_on q _ _ HN.out.1 HN.out.2.1 HN.out.2.2,upto_map,show i + (k + 1) = i + k + 1 by omega]⟩
       case measure => simp [intOf]; omega
   ·go_wp2_with fail
    go_ret
    refine ⟨ret_int ?_,rfl⟩
    have hz : Z = 0:=by rw [HE.out,drop_end s (i + k) (by omega)]; rfl
    rw [HR.out,hz]; simp
 ·have hcl : Z = 0:=by rw [hZ,hd0,Lx.closedLen_cons,if_neg hq]
  have hr : R = 0:=by rw [HR.out,hcl]; simp
  subst hr
  have t0 : ((s[i].toNat : Int) == (q.toNat : Int)) = false:=u8_ne hq
  have t0' : ((s[i].toNat : Int) != (q.toNat : Int)) = true:=by simp [bne,t0]
  clear hcl hd0 hq hZ HR
  go_enter Tryz.func173,Tryz.ntmps173
  go_wp2_with fail
  go_ret
  exact ⟨rfl,rfl⟩
theorem rsign_any (s : ByteArray) (i : Nat) (hs : s.size ≤ 4000000000) (hi : i < s.size) (w : World) :
  Calls Tryz.prog 174 #[.string s, .int .i64 i] w fun e w' => e = .returned (.int .i64 (Lx.signLen (s.data.toList.drop i))) ∧ Below w.heap.size w w':=by
 rw [Lx.sign_ref]
 obtain ⟨l,hl⟩ : ∃ l,l = s.data.toList.drop i:=⟨_,rfl⟩
 have hlh : l = s[i] :: s.data.toList.drop (i + 1):=by rw [hl]; exact drop_at s i hi
 obtain ⟨R,hR⟩ : ∃ R,R = Lx.refSign l:=⟨_,rfl⟩
 rw [← hl,← hR]
 have HL:=Lib.hid hl
 have HLH:=Lib.hid hlh
 have HR:=Lib.hid hR
 clear hl hlh hR
 go_enter Tryz.func174,Tryz.ntmps174
 go_wp2_with fail
 generalize hW0 : (w.alloc _).alloc _ = W0
 generalize hO : (ByteArray.mk #[91,93,40,41,123,125,46,38,42,43,45,126,33,47,37,60,62,94,124,63,58,59,61,44,35]) = O
 have hB0 : Below w.heap.size w W0:=by rw [← hW0]; exact ((Below.refl _ w).alloc (Nat.le_refl _) _).alloc (by simp) _
 have h3 : Strs W0 w.heap.size Lx.threes:=by
  intro k x hx
  rw [← hW0,cell_of_row _ _ k _ 9 (0,0) ((Lib.alloc_old (w.alloc _) _ w.heap.size (by simp)).trans (heap_alloc_new w _))]
  show ((Lx.threes.map fun s => Value.string ⟨s.toArray⟩).toArray)[k]? = _
  rw [List.getElem?_toArray,List.getElem?_map,hx]; rfl
 have h2 : Strs W0 (w.heap.size + 1) Lx.twos:=by
  intro k x hx
  rw [← hW0,cell_of_row _ _ k _ 9 (0,0) (by have:=heap_alloc_new (w.alloc (.cells #[.string ⟨#[46,46,46]⟩, .string ⟨#[60,60,61]⟩, .string ⟨#[62,62,61]⟩] 9)) (.cells (Lx.twos.map fun s => Value.string ⟨s.toArray⟩).toArray 9); rw [World.size_alloc] at this; exact this)]
  rw [List.getElem?_toArray,List.getElem?_map,hx]; rfl
 have h1 : O.data.toList = Lx.oneBytes:=by rw [← hO]; rfl
 have hOs : O.size = 25:=by rw [← hO]; rfl
 have H3:=Lib.hid h3
 have H2:=Lib.hid h2
 have H1:=Lib.hid h1
 have HB0:=Lib.hid hB0
 have HOs:=Lib.hid hOs
 clear hW0 hO h3 h2 h1 hB0 hOs
 go_loop [8] (fun n => ∃ k : Nat,n = .int .i64 k ∧ k ≤ 3 ∧ (Lx.threes.take k).any (·.isPrefixOf l) = false) (fun n => 3 - (intOf n).toNat)
 case atStart => exact ⟨0,rfl,by omega,rfl⟩
 case round =>
  obtain ⟨k,rfl,hk,hno⟩:=hrel
  have HN:=Lib.hid hno
  clear hno
  by_cases hlt : k < 3
  ·have hlt' : k < Lx.threes.length:=hlt
   have hc:=H3.out k _ (List.getElem?_eq_getElem hlt')
   have hlen : ∀ x ∈ Lx.threes,x.length = 3:=by decide
   have hxl:=hlen _ (List.getElem_mem hlt')
   have hstep:=any_take_succ Lx.threes l k hlt'
   obtain ⟨P,hP⟩ : ∃ P : ByteArray,P = ⟨(Lx.threes[k]).toArray⟩:=⟨_,rfl⟩
   have hPl : P.data.toList = Lx.threes[k]:=by rw [hP]
   have hPs : P.size = 3:=by rw [hP,mk_size]; exact hxl
   rw [← hP] at hc
   have HPl:=Lib.hid hPl
   have HPs:=Lib.hid hPs
   have HS:=Lib.hid hstep
   clear hP hPl hPs hlen hxl hstep
   have z0 : (0 : Int) ≤ k:=by omega
   have z1 : (k : Int) < 3:=by omega
   cases hb : (Lx.threes[k]).isPrefixOf l with
   | true =>
    have HBb:=Lib.hid hb
    clear hb
    go_wp2_with fail
    refine (is_any s P i hs (by omega) (by rw [HPs.out]; omega) (by rw [HPs.out]; omega) _).mono ?_
    rintro e w' ⟨rfl,rfl⟩
    rw [← HL.out,HPl.out,HBb.out]
    go_wp2_with fail
    go_ret
    refine ⟨ret_int ?_,HB0.out⟩
    have : Lx.threes.any (·.isPrefixOf l) = true:=List.any_eq_true.2 ⟨_,List.getElem_mem hlt',HBb.out⟩
    rw [HR.out]
    unfold Lx.refSign
    rw [if_pos this]
    rfl
   | false =>
    have HBb:=Lib.hid hb
    clear hb
    go_wp2_with fail
    refine (is_any s P i hs (by omega) (by rw [HPs.out]; omega) (by rw [HPs.out]; omega) _).mono ?_
    rintro e w' ⟨rfl,rfl⟩
    rw [← HL.out,HPl.out,HBb.out]
    go_wp2_with fail
    go_round
    case rel => exact ⟨k + 1,by go_num,by omega,by rw [HS.out,HN.out,HBb.out]; rfl⟩
    case measure => simp [intOf]; omega
  ·have hk3 : k = 3:=by omega
   subst hk3
   have H33 : Hid (Lx.threes.any (·.isPrefixOf l) = false):=HN
   clear HN H3
   go_wp2_with fail
   go_loop [10] (fun n => ∃ k : Nat,n = .int .i64 k ∧ k ≤ 20 ∧ (Lx.twos.take k).any (·.isPrefixOf l) = false) (fun n => 20 - (intOf n).toNat)
   case atStart => exact ⟨0,rfl,by omega,rfl⟩
   case round =>
    obtain ⟨k,rfl,hk,hno⟩:=hrel
    have HN:=Lib.hid hno
    clear hno
    by_cases hlt : k < 20
    ·have hlt' : k < Lx.twos.length:=hlt
     have hc:=H2.out k _ (List.getElem?_eq_getElem hlt')
     have hlen : ∀ x ∈ Lx.twos,x.length = 2:=by decide
     have hxl:=hlen _ (List.getElem_mem hlt')
     have hstep:=any_take_succ Lx.twos l k hlt'
     obtain ⟨P,hP⟩ : ∃ P : ByteArray,P = ⟨(Lx.twos[k]).toArray⟩:=⟨_,rfl⟩
     have hPl : P.data.toList = Lx.twos[k]:=by rw [hP]
     have hPs : P.size = 2:=by rw [hP,mk_size]; exact hxl
     rw [← hP] at hc
     have HPl:=Lib.hid hPl
     have HPs:=Lib.hid hPs
     have HS:=Lib.hid hstep
     clear hP hPl hPs hlen hxl hstep
     have z0 : (0 : Int) ≤ k:=by omega
     have z1 : (k : Int) < 20:=by omega
     cases hb : (Lx.twos[k]).isPrefixOf l with
     | true =>
      have HBb:=Lib.hid hb
      clear hb
      go_wp2_with fail
      refine (is_any s P i hs (by omega) (by rw [HPs.out]; omega) (by rw [HPs.out]; omega) _).mono ?_
      rintro e w' ⟨rfl,rfl⟩
      rw [← HL.out,HPl.out,HBb.out]
      go_wp2_with fail
      go_ret
      refine ⟨ret_int ?_,HB0.out⟩
      have h2t : Lx.twos.any (·.isPrefixOf l) = true:=List.any_eq_true.2 ⟨_,List.getElem_mem hlt',HBb.out⟩
      rw [HR.out]
      unfold Lx.refSign
      rw [if_neg (by rw [H33.out]; simp),if_pos h2t]
      rfl
     | false =>
      have HBb:=Lib.hid hb
      clear hb
      go_wp2_with fail
      refine (is_any s P i hs (by omega) (by rw [HPs.out]; omega) (by rw [HPs.out]; omega) _).mono ?_
      rintro e w' ⟨rfl,rfl⟩
      rw [← HL.out,HPl.out,HBb.out]
      go_wp2_with fail
      go_round
      case rel => exact ⟨k + 1,by go_num,by omega,by rw [HS.out,HN.out,HBb.out]; rfl⟩
      case measure => simp [intOf]; omega
    ·have hk20 : k = 20:=by omega
     subst hk20
     have H22 : Hid (Lx.twos.any (·.isPrefixOf l) = false):=HN
     clear HN H2
     have hbo : O.size ≤ 25:=by rw [HOs.out]; omega
     go_wp2_with fail
     go_loopw [12] (fun n wx => ∃ k : Nat,n = .int .i64 k ∧ k ≤ O.size ∧ (Lx.ones.take k).any (·.isPrefixOf l) = false ∧ Below w.heap.size w wx) (fun n _ => O.size - (intOf n).toNat)
     case atStart => exact ⟨0,rfl,by omega,rfl,HB0.out⟩
     case round =>
      obtain ⟨k,rfl,hk,hno,hB⟩:=hrel
      have HN:=Lib.hid hno
      clear hno
      by_cases hlt : k < O.size
      ·have hlt' : k < Lx.ones.length:=by have:=HOs.out; show k < 25; omega
       have hstep:=any_take_succ Lx.ones l k hlt'
       have hok : Lx.ones[k] = [O[k]]:=by
        have e : Lx.ones[k] = [Lx.oneBytes[k]'(by simpa [Lx.ones] using hlt')]:=by simp [Lx.ones]
        rw [e]
        congr 1
        have e2 : O.data.toList[k]? = some O[k]:=by rw [List.getElem?_eq_getElem (by rw [size_list]; exact hlt)]; rfl
        rw [H1.out] at e2
        exact (List.getElem?_eq_some_iff.1 e2).2
       have hpre : (Lx.ones[k]).isPrefixOf l = decide (s[i] = O[k]):=by
        rw [hok,HLH.out,Bool.eq_iff_iff]
        simp only [List.isPrefixOf,Bool.and_true,beq_iff_eq,decide_eq_true_iff]
        exact ⟨fun h => h.symm,fun h => h.symm⟩
       rw [hpre] at hstep
       have z0 : (0 : Int) ≤ k:=by omega
       have z1 : (k : Int) < O.size:=by omega
       have z2 : (0 : Int) ≤ i:=by omega
       have z3 : (i : Int) < s.size:=by omega
       by_cases he : s[i] = O[k]
       ·have t1 : ((s[i].toNat : Int) == (O[k].toNat : Int)) = true:=u8_eq he
        rw [decide_eq_true he] at hpre
        have HP:=Lib.hid hpre
        clear hpre hstep he hok
        go_wp2_with fail
        go_quiet (fail)
        go_wp2_with fail
        go_ret
        refine ⟨ret_int ?_,below_drewN hB _⟩
        have h1t : Lx.ones.any (·.isPrefixOf l) = true:=List.any_eq_true.2 ⟨_,List.getElem_mem hlt',HP.out⟩
        rw [HR.out]
        unfold Lx.refSign
        rw [if_neg (by rw [H33.out]; simp),if_neg (by rw [H22.out]; simp),if_pos h1t]
        rfl
       ·have t1 : ((s[i].toNat : Int) == (O[k].toNat : Int)) = false:=u8_ne he
        rw [decide_eq_false he] at hstep
        have HS:=Lib.hid hstep
        clear hpre hstep he hok
        go_wp2_with fail
        go_quiet (fail)
        go_wp2_with fail
        go_roundw
        case rel => exact ⟨k + 1,by go_num,by omega,by rw [HS.out,HN.out]; rfl,below_drewN hB _⟩
        case measure => simp [intOf]; omega
      ·have hk25 : k = 25:=by have:=HOs.out; omega
       subst hk25
       have H11 : Lx.ones.any (·.isPrefixOf l) = false:=HN.out
       have hr : R = 0:=by
        rw [HR.out]
        unfold Lx.refSign
        rw [if_neg (by rw [H33.out]; simp),if_neg (by rw [H22.out]; simp),if_neg (by rw [H11]; simp)]
       have Hr:=Lib.hid hr
       clear H11 hr
       go_wp2_with fail
       go_ret
       exact ⟨ret_int (by rw [Hr.out]; rfl),hB⟩
end
section
open Go.RowKit Go.Shelf
open Lx (T)
theorem next_any (s : ByteArray) (i : Nat) (hs : s.size ≤ 4000000000) (hi : i < s.size) (w : World) :
  Calls Tryz.prog 136 #[.string s, .int .i64 i] w (Pair w (Lx.first (s.data.toList.drop i))):=by
 have hd:=drop_at s i hi
 have hf:=Lx.first_cons s[i] (s.data.toList.drop (i + 1))
 have hw:=rword_cons s[i] (s.data.toList.drop (i + 1))
 rw [← hd] at hf hw
 have hwp : Lx.letter s[i] = true → 0 < Lx.wordLen (s[i] :: s.data.toList.drop (i + 1)):=Lx.wordLen_pos s[i] (s.data.toList.drop (i + 1))
 have b1:=(Lx.closedLen_le 34 (s.data.toList.drop i)).1
 have b2:=Lx.closedLen_le 39 (s.data.toList.drop i)
 have b3:=Lx.signLen_le (s.data.toList.drop i)
 have b4:=Lx.numLen_le (s.data.toList.drop i)
 have b5:=Lx.wordLen_le (s.data.toList.drop i)
 rw [← hd] at hwp
 rw [List.length_drop,size_list] at b1 b2 b3 b4 b5
 have hr34 : rq 34 (s.data.toList.drop i) = Lx.closedLen 34 (s.data.toList.drop i):=by unfold rq; rw [if_neg (fun h => absurd h.1 (by decide))]
 have hr39 : rq 39 (s.data.toList.drop i) = if Lx.closedLen 39 (s.data.toList.drop i) = 2 then 0 else Lx.closedLen 39 (s.data.toList.drop i):=by unfold rq; simp
 obtain ⟨P,hP⟩ : ∃ P,P = Lx.first (s.data.toList.drop i):=⟨_,rfl⟩
 obtain ⟨A,hA⟩ : ∃ A,A = Lx.closedLen 34 (s.data.toList.drop i):=⟨_,rfl⟩
 obtain ⟨B,hB⟩ : ∃ B,B = Lx.closedLen 39 (s.data.toList.drop i):=⟨_,rfl⟩
 obtain ⟨C,hC⟩ : ∃ C,C = Lx.signLen (s.data.toList.drop i):=⟨_,rfl⟩
 obtain ⟨N,hN⟩ : ∃ N,N = Lx.numLen (s.data.toList.drop i):=⟨_,rfl⟩
 obtain ⟨V,hV⟩ : ∃ V,V = Lx.wordLen (s.data.toList.drop i):=⟨_,rfl⟩
 rw [← hP] at hf ⊢
 rw [← hA,← hB,← hC,← hN,← hV] at hf
 rw [← hA] at b1 hr34
 rw [← hB] at b2 hr39
 rw [← hC] at b3
 rw [← hN] at b4
 rw [← hV] at b5 hwp hw
 have HC:=Lib.hid hC
 have HN:=Lib.hid hN
 have H34:=Lib.hid hr34
 have H39:=Lib.hid hr39
 clear hP hA hB hC hN hV hr34 hr39 hd
 by_cases h10 : s[i] = 10
 ·rw [if_pos h10] at hf
  have t1 : ((s[i].toNat : Int) == 10) = true:=u8_eq h10
  subst hf
  clear h10 hwp hw b2
  go_enter Tryz.func136,Tryz.ntmps136
  go_wp2_with fail
  go_ret2
  exact ⟨rfl,Below.refl _ _⟩
 ·rw [if_neg h10] at hf
  have t1 : ((s[i].toNat : Int) == 10) = false:=u8_ne h10
  clear h10
  cases hL : Lx.letter s[i] with
  | true =>
   rw [if_pos hL] at hf hw
   have hv:=hwp hL
   subst hf
   have HW:=Lib.hid hw
   clear hwp hw hL b2
   go_enter Tryz.func136,Tryz.ntmps136
   go_wp2_with fail
   refine (word_any s i hs hi _).mono ?_
   rintro e w' ⟨rfl,rfl⟩
   rw [HW.out]
   go_wp2_with fail
   go_ret2
   exact ⟨rfl,Below.refl _ _⟩
  | false =>
   rw [if_neg (by rw [hL]; simp)] at hf hw
   have HW:=Lib.hid hw
   clear hwp hw hL
   by_cases hn0 : 0 < N
   ·rw [if_pos hn0] at hf
    subst hf
    clear b2
    go_enter Tryz.func136,Tryz.ntmps136
    go_wp2_with fail
    refine (word_any s i hs hi _).mono ?_
    rintro e w' ⟨rfl,rfl⟩
    rw [HW.out]
    go_wp2_with fail
    refine (rnumber_any s i hs hi _).mono ?_
    rintro e w' ⟨rfl,rfl⟩
    rw [← HN.out]
    go_wp2_with fail
    go_ret2
    exact ⟨rfl,Below.refl _ _⟩
   ·rw [if_neg hn0] at hf
    obtain rfl : N = 0:=by omega
    by_cases ha0 : 0 < A
    ·rw [if_pos ha0] at hf
     subst hf
     clear b2
     go_enter Tryz.func136,Tryz.ntmps136
     go_wp2_with fail
     refine (word_any s i hs hi _).mono ?_
     rintro e w' ⟨rfl,rfl⟩
     rw [HW.out]
     go_wp2_with fail
     refine (rnumber_any s i hs hi _).mono ?_
     rintro e w' ⟨rfl,rfl⟩
     rw [← HN.out]
     go_wp2_with fail
     refine (quoted_any s i hs hi 34 (by decide) (by decide) _).mono ?_
     rintro e w' ⟨rfl,rfl⟩
     rw [H34.out]
     go_wp2_with fail
     go_ret2
     exact ⟨rfl,Below.refl _ _⟩
    ·rw [if_neg ha0] at hf
     obtain rfl : A = 0:=by omega
     by_cases hb2 : 2 < B
     ·rw [if_pos hb2] at hf
      subst hf
      have h39 : rq 39 (s.data.toList.drop i) = B:=by rw [H39.out,if_neg (by omega)]
      have H39':=Lib.hid h39
      clear b2 h39
      go_enter Tryz.func136,Tryz.ntmps136
      go_wp2_with fail
      refine (word_any s i hs hi _).mono ?_
      rintro e w' ⟨rfl,rfl⟩
      rw [HW.out]
      go_wp2_with fail
      refine (rnumber_any s i hs hi _).mono ?_
      rintro e w' ⟨rfl,rfl⟩
      rw [← HN.out]
      go_wp2_with fail
      refine (quoted_any s i hs hi 34 (by decide) (by decide) _).mono ?_
      rintro e w' ⟨rfl,rfl⟩
      rw [H34.out]
      go_wp2_with fail
      refine (quoted_any s i hs hi 39 (by decide) (by decide) _).mono ?_
      rintro e w' ⟨rfl,rfl⟩
      rw [H39'.out]
      go_wp2_with fail
      go_ret2
      exact ⟨rfl,Below.refl _ _⟩
     ·rw [if_neg hb2] at hf
      have h39 : rq 39 (s.data.toList.drop i) = 0:=by
       rw [H39.out]
       have:=b2.2
       split
       ·rfl
       ·omega
      have H39':=Lib.hid h39
      clear b2 h39
      by_cases hc0 : 0 < C
      ·rw [if_pos hc0] at hf
       subst hf
       go_enter Tryz.func136,Tryz.ntmps136
       go_wp2_with fail
       refine (word_any s i hs hi _).mono ?_
       rintro e w' ⟨rfl,rfl⟩
       rw [HW.out]
       go_wp2_with fail
       refine (rnumber_any s i hs hi _).mono ?_
       rintro e w' ⟨rfl,rfl⟩
       rw [← HN.out]
       go_wp2_with fail
       refine (quoted_any s i hs hi 34 (by decide) (by decide) _).mono ?_
       rintro e w' ⟨rfl,rfl⟩
       rw [H34.out]
       go_wp2_with fail
       refine (quoted_any s i hs hi 39 (by decide) (by decide) _).mono ?_
       rintro e w' ⟨rfl,rfl⟩
       rw [H39'.out]
       go_wp2_with fail
       refine (rsign_any s i hs hi _).mono ?_
       rintro e w' ⟨rfl,hBe⟩
       rw [← HC.out]
       go_wp2_with fail
       go_ret2
       exact ⟨rfl,hBe⟩
      ·rw [if_neg hc0] at hf
       obtain rfl : C = 0:=by omega
       subst hf
       go_enter Tryz.func136,Tryz.ntmps136
       go_wp2_with fail
       refine (word_any s i hs hi _).mono ?_
       rintro e w' ⟨rfl,rfl⟩
       rw [HW.out]
       go_wp2_with fail
       refine (rnumber_any s i hs hi _).mono ?_
       rintro e w' ⟨rfl,rfl⟩
       rw [← HN.out]
       go_wp2_with fail
       refine (quoted_any s i hs hi 34 (by decide) (by decide) _).mono ?_
       rintro e w' ⟨rfl,rfl⟩
       rw [H34.out]
       go_wp2_with fail
       refine (quoted_any s i hs hi 39 (by decide) (by decide) _).mono ?_
       rintro e w' ⟨rfl,rfl⟩
       rw [H39'.out]
       go_wp2_with fail
       refine (rsign_any s i hs hi _).mono ?_
       rintro e w' ⟨rfl,hBe⟩
       rw [← HC.out]
       go_wp2_with fail
       go_ret2
       exact ⟨rfl,hBe⟩
end
section
open Go.RowKit Go.Shelf
open Lx (T)
theorem row_mono {W : World} {base base2 e sz n : Nat} {v : Value} {cs : List Value} (h : W.ownsRow base e sz v n cs) (hb : base2 ≤ base) : W.ownsRow base2 e sz v n cs:=by
  refine ⟨h.1,?_⟩
  rcases h.2 with h' | ⟨g,cap,cur,h',h1,h2⟩
  · exact .inl h'
  · exact .inr ⟨g,cap,cur,h',Nat.le_trans hb h1,h2⟩
theorem rtokens_row (f : Int) (s : ByteArray) (hs : s.size ≤ 1000000000) (w : World) :
    Calls Tryz.prog 86 #[.int .i64 f, .string s] w (fun e w' => ∃ v,e = .returned v ∧ w'.ownsRow w.heap.size 63 6 v (Lx.tk false (Sp.left 0 s.data.toList)).length (tokCells f (Lx.tk false (Sp.left 0 s.data.toList))) ∧ Below w.heap.size w w'):=by
  obtain ⟨i0,hi,hz0,hz1,hz2⟩:=info_parts infoTok
  have hll:=Sp.left_le 0 s.data.toList
  rw [size_list] at hll
  obtain ⟨l,hl⟩ : ∃ l,l = Sp.left 0 s.data.toList:=⟨_,rfl⟩
  rw [← hl] at hll ⊢
  have HL:=Lib.hid hl
  have HP : Hid (∀ x ∈ l,x.2 < s.size):=Lib.hid (fun x hx => by rw [hl] at hx; have:=Sp.left_lt hx; rw [size_list] at this; omega)
  clear hl
  go_enter Tryz.func86,Tryz.ntmps86
  go_wp2_with fail
  refine (refjoin_any s (by omega) _).mono ?_
  rintro e w1 ⟨cv,rfl,hcv,hB1⟩
  rw [← HL.out] at hcv
  obtain ⟨ad,cap,rfl,hc1,hc2, -⟩:=id hcv
  unfold maxLen at hc2
  go_wp2_with fail
  refine (reftext_any _ l _ hcv (by omega)).mono ?_
  rintro e w2 ⟨rfl,hB2⟩
  replace hcv:=hcv.below hB2
  replace hB2 : Below w.heap.size w w2:=Below.trans hB1 (hB2.mono hB1.size)
  obtain ⟨S,hS⟩ : ∃ S : ByteArray,S = ⟨(l.map Prod.fst).toArray⟩:=⟨_,rfl⟩
  have hSl : S.data.toList = Lx.bytes l:=by rw [hS]; rfl
  have hSz : S.size = l.length:=by rw [hS,mk_size]; simp
  rw [← hS]
  rw [← hSz] at hll hc1 hcv ⊢
  have Hn:=Lib.hid hSz
  have HS:=Lib.hid hSl
  have HC:=Lib.hid hcv
  have HB2:=Lib.hid hB2
  clear hS hSl hSz hcv hB1 hB2
  go_wp2_with fail
  go_loopw [7,8,9] (fun o a p wr => ∃ (k : Nat) (P : Bool) (acc : List T),a = .int .i64 k ∧ p = .bool P ∧ Sofar l k P acc ∧ wr.ownsRow w2.heap.size 63 6 o acc.length (tokCells f acc) ∧ Below w2.heap.size w2 wr) (fun _ a _ _ => S.size - (intOf a).toNat)
  case atStart => exact ⟨0,false,[],rfl,rfl,sofar_start _,World.ownsRow_nil _ _ _ _,Below.refl _ _⟩
  case round =>
    obtain ⟨k,P,acc,rfl,rfl,hsf,hrow,hB⟩:=hrel
    have hkl:=hsf.1
    have hal:=hsf.2.1
    rw [← Hn.out] at hkl
    by_cases hlt : k < S.size
    · have hlt' : k < l.length:=by rw [← Hn.out]; exact hlt
      obtain ⟨B,hBk⟩ : ∃ B,B = Lx.blankLen (Lx.bytes (l.drop k)):=⟨_,rfl⟩
      have HBk:=Lib.hid hBk
      by_cases hb : 0 < B
      · obtain ⟨h1,h2⟩:=sofar_blank hsf (by rw [← hBk]; exact hb)
        rw [← hBk,← Hn.out] at h1
        rw [← hBk] at h2
        clear hBk
        go_wp2_with fail
        refine (rblank_any S k (by omega) hlt _).mono ?_
        rintro e w' ⟨rfl,rfl⟩
        rw [HS.out,← Lx.bytes_drop,← HBk.out]
        go_wp2_with fail
        go_roundw
        case rel => exact ⟨k + B,true,acc,by go_num,rfl,h2,hrow,hB⟩
        case measure => simp [intOf]; omega
      · have hb0 : B = 0:=by omega
        obtain ⟨h1,h2,h3⟩:=sofar_tok hsf hlt' (by rw [← hBk]; exact hb0)
        obtain ⟨q,hq⟩ : ∃ q,q = Lx.first (Lx.bytes (l.drop k)):=⟨_,rfl⟩
        obtain ⟨t,ht⟩ : ∃ t,t = Lx.tokAt P (l.drop k):=⟨_,rfl⟩
        have htk : t.kind = q.1:=by rw [ht,hq]; rfl
        have htt : t.text = (Lx.bytes (l.drop k)).take q.2:=by rw [ht,hq]; rfl
        have htb : t.bl = P:=by rw [ht]; rfl
        have htf : t.fr = (l.getD k (0,0)).2:=by rw [ht]; unfold Lx.tokAt; simp [List.getD_eq_getElem?_getD]
        have hto : t.to = (l.getD (k + (q.2 - 1)) (0,0)).2 + 1:=by rw [ht,hq]; unfold Lx.tokAt; simp [List.getD_eq_getElem?_getD]
        rw [← hq] at h1 h2 h3
        rw [← ht] at h3
        rw [← Hn.out] at h2
        obtain ⟨kd,m⟩:=q
        dsimp only at h1 h2 h3 htk htt hto
        have hxk : l[k]? = some (l.getD k (0,0)):=by rw [List.getD_eq_getElem?_getD,List.getElem?_eq_getElem hlt']; rfl
        have hjl : k + (m - 1) < l.length:=by rw [← Hn.out]; omega
        have hxj : l[k + (m - 1)]? = some (l.getD (k + (m - 1)) (0,0)):=by rw [List.getD_eq_getElem?_getD,List.getElem?_eq_getElem hjl]; rfl
        have hpj:=HP.out _ (List.mem_of_getElem? hxj)
        obtain ⟨g,o,had, -, -, -,hg,hcell⟩:=HC.out.cells (by omega)
        have c1:=(hcell k _ hxk).2
        have c2:=(hcell _ _ hxj).2
        rw [← htf] at c1
        obtain ⟨tl,htl⟩ : ∃ tl,tl = (l.getD (k + (m - 1)) (0,0)).2:=⟨_,rfl⟩
        rw [← htl] at c2 hto hpj
        subst had
        have HQ:=Lib.hid hq
        have H3:=Lib.hid h3
        have HTk:=Lib.hid htk
        have HTt:=Lib.hid htt
        have HTo:=Lib.hid hto
        have HTb:=Lib.hid htb
        obtain ⟨j,hj⟩ : ∃ j,j = k + (m - 1):=⟨_,rfl⟩
        rw [← hj] at c2
        have Hj:=Lib.hid hj
        obtain ⟨fr,hfr⟩ : ∃ fr,fr = t.fr:=⟨_,rfl⟩
        rw [← hfr] at c1
        have HFr:=Lib.hid hfr
        clear hq ht htk htt htb htf hto h3 hxk hjl hxj hcell htl hBk hfr hsf hj
        go_wp2_with fail
        refine (rblank_any S k (by omega) hlt _).mono ?_
        rintro e w' ⟨rfl,rfl⟩
        rw [HS.out,← Lx.bytes_drop,← HBk.out]
        go_wp2_with fail
        refine (next_any S k (by omega) hlt _).mono ?_
        rintro e w3 ⟨rfl,hB3⟩
        rw [HS.out,← Lx.bytes_drop,← HQ.out]
        replace hrow:=row_below hrow hB3
        replace hB3 : Below w2.heap.size w2 w3:=hB.trans (hB3.mono hB.size)
        have d1 : w3.cell? ⟨g,o + k * 2 + 1,none⟩ = some (.int .i64 fr):=(hB3.cell (p:=⟨g,o + k * 2 + 1,none⟩) hg).trans c1
        have d2 : w3.cell? ⟨g,o + j * 2 + 1,none⟩ = some (.int .i64 tl):=(hB3.cell (p:=⟨g,o + j * 2 + 1,none⟩) hg).trans c2
        clear hB c1 c2
        go_wp2_with fail
        have ag : u7.ownBlock ≠ some g:=fun e => by have:=(hrow.lt g e).1; omega
        have hw3:=hB3.size
        have z0 : (0 : Int) ≤ k:=by omega
        have z1 : (k : Int) < S.size:=by omega
        have z2 : (k : Int) ≤ (k : Int) + m:=by omega
        have z3 : (k : Int) + m ≤ S.size:=by omega
        have z4 : (0 : Int) ≤ (j : Int):=by omega
        have z5 : (j : Int) < S.size:=by have:=Hj.out; omega
        have z6 : (0 : Int) ≤ (k : Int) + m:=by omega
        have hbb : (acc.length + 1) * 56 ≤ 140737488355328:=by omega
        have hmx : acc.length + 1 ≤ maxLen:=by unfold maxLen; omega
        have e4 : ((k : Int) + m).toNat = k + m:=by omega
        have e1 : IntKind.i64.wrap ((k : Int) + m) = (k : Int) + m:=IntWalk.i64_in _ (by omega)
        have e2 : IntKind.i64.wrap ((k : Int) + m - 1) = (j : Int):=by rw [IntWalk.i64_in _ (by omega)]; have:=Hj.out; omega
        have e3 : IntKind.i64.wrap ((tl : Int) + 1) = (tl : Int) + 1:=IntWalk.i64_in _ (by omega)
        go_region_held3 (fun w' => w'.cell? ⟨g,o + k * 2 + 1,none⟩ = some (.int .i64 fr) ∧ w'.cell? ⟨g,o + j * 2 + 1,none⟩ = some (.int .i64 tl))
          (first
            | go_keep
            | (go_split_ands
               refine ⟨?_,?_⟩
               · (rw [hgrow.cell_far _ (by simp; omega) (Ne.symm ag)]; assumption)
               · (rw [hgrow.cell_far _ (by simp; omega) (Ne.symm ag)]; assumption)))
          ((refine step_append_lies _ (by rfl) _ _ _ (by rfl) w2.heap.size 63 i0 _ 6 56 Tryz.underlying44 hi hz0 hz1 hz2 rfl (by omega) u7 acc.length (tokCells f acc) (by rfl) ((hrow.alloc _).drew)
              ⟨w3.heap.size,0,none⟩ 1 1 [.int .i64 kd, .string (S.extract k (k + m)), .int .i64 f, .int .i64 fr, .int .i64 ((tl : Int) + 1), .bool P] (by rfl) (by rfl) (World.news_of_block (cs:=#[.int .i64 kd, .string (S.extract k (k + m)), .int .i64 f, .int .i64 fr, .int .i64 ((tl : Int) + 1), .bool P]) (t:=63) (fr:=(0,0)) (heap_alloc_new w3 _)) (by simp [Value.oneCell'])
              (by omega) hmx hbb (by simp; omega) (w3.heap.size + 1) (by simp) ?_; intro gg cap' w4 hown1 hgrow hat hlt4))
        clear e1 e2 e3 e4
        go_wp2_with fail
        go_roundw
        case rel =>
          refine ⟨k + m,false,acc ++ [t],by go_num,rfl,H3.out,?_,?_⟩
          · have hx : S.extract k (k + m) = ⟨t.text.toArray⟩:=by rw [extract_list,HS.out,← Lx.bytes_drop,HTt.out,show k + m - k = m by omega]
            have hc : tokCells f (acc ++ [t]) = tokCells f acc ++ [.int .i64 kd, .string (S.extract k (k + m)), .int .i64 f, .int .i64 fr, .int .i64 ((tl : Int) + 1), .bool P]:=by
              rw [tokCells_append,hx,HFr.out,show ((tl : Int) + 1) = ((t.to : Nat) : Int) by rw [HTo.out]; rfl,← HTb.out,← HTk.out]
              simp [tokCells,cellsOne]
            rw [hc,List.length_append]
            exact hown1
          · exact ((hB3.alloc hw3 _).drew).grown hgrow (by simp; omega) (fun i ei => (hrow.lt i ei).1)
        case measure => simp [intOf]; omega
    · have he:=sofar_end hsf (by rw [← Hn.out]; omega)
      go_wp2_with fail
      go_ret
      rw [← he]
      exact ⟨_,rfl,row_mono hrow HB2.out.size,HB2.out.trans (hB.mono HB2.out.size)⟩
theorem rtokens_any (f : Int) (s : ByteArray) (hs : s.size ≤ 1000000000) (w : World) :
    Calls Tryz.prog 86 #[.int .i64 f, .string s] w (ToksPost w f (Lx.tk false (Sp.left 0 s.data.toList))) :=
  (rtokens_row f s hs w).mono fun _ _ ⟨v,h1,h2,h3⟩ => ⟨v,h1,Toks.of_row h2,h3⟩
end
end Go.Proofs.YthekfpgegiffoaaGreatDoor
