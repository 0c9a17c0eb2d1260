/- The document's own Tokens, what tpl8 had left out. (and what stands with it) -/
import Derived.Test.YthekfpgegiffoaaGreatDoorQw
set_option linter.unusedSimpArgs false
set_option linter.unusedVariables false
set_option maxHeartbeats 16000000
set_option maxRecDepth 100000
namespace Go.Proofs.YthekfpgegiffoaaGreatDoor
section
open Go.RowKit Go.Shelf
open Lx (T)
theorem is_any (s p : ByteArray) (i : Nat) (hs : s.size ≤ 4000000000) (hi : i ≤ s.size) (hp : p.size ≤ 100) (hp0 : 0 < p.size) (w : World) :
  Calls Tryz.prog 170 #[.string s, .int .i64 i, .string p] w fun e w' => e = .returned (.bool (p.data.toList.isPrefixOf (s.data.toList.drop i))) ∧ w = w':=by
 by_cases h : i + p.size ≤ s.size
 ·have hx:=is_pre s p i
  obtain ⟨b,hb⟩ : ∃ b,b = p.data.toList.isPrefixOf (s.data.toList.drop i):=⟨_,rfl⟩
  rw [← hb] at hx ⊢
  have HL:=Lib.hid hx
  clear hx hb
  go_enter Tryz.func170,Tryz.ntmps170
  go_wp2_with fail
  go_ret
  exact ⟨ret_bool (by rw [HL.out,ba_beq]),rfl⟩
 ·have hx:=is_short s p i h hp0
  have HL:=Lib.hid hx
  clear hx
  go_enter Tryz.func170,Tryz.ntmps170
  go_wp2_with fail
  go_ret
  exact ⟨ret_bool HL.out.symm,rfl⟩
theorem rblank_any (s : ByteArray) (i : Nat) (hs : s.size ≤ 4000000000) (hi : i < s.size) (w : World) :
  Calls Tryz.prog 135 #[.string s, .int .i64 i] w fun e w' => e = .returned (.int .i64 ((i + Lx.blankLen (s.data.toList.drop i) : Nat) : Int)) ∧ w = w':=by
 have hd:=drop_at s i hi
 have hbl : Lx.blankLen (s.data.toList.drop i) = if Lx.isBl s[i] then 1 else Lx.commentLen (s.data.toList.drop i):=by
  conv => lhs; rw [hd]
  rw [Lx.blankLen_cons,← hd]
 obtain ⟨R,hR⟩ : ∃ R,R = i + Lx.blankLen (s.data.toList.drop i):=⟨_,rfl⟩
 rw [← hR]
 rw [hbl] at hR
 clear hbl
 have hi2:=isBl_range s[i]
 cases hB : Lx.isBl s[i] with
 | true =>
  rw [hB] at hi2 hR
  rw [if_pos rfl] at hR
  subst hR
  have hcase : ((s[i].toNat : Int) == 32) = true ∨ (((s[i].toNat : Int) == 32) = false ∧ ((s[i].toNat : Int) == 9) = true) ∨ (((s[i].toNat : Int) == 32) = false ∧ ((s[i].toNat : Int) == 9) = false ∧ 11 ≤ (s[i].toNat : Int) ∧ (s[i].toNat : Int) ≤ 13):=by
   cases h1 : ((s[i].toNat : Int) == 32) with
   | true => exact .inl rfl
   | false =>
    cases h2 : ((s[i].toNat : Int) == 9) with
    | true => exact .inr (.inl ⟨rfl,rfl⟩)
    | false =>
     rw [h1,h2] at hi2
     simp at hi2
     exact .inr (.inr ⟨rfl,rfl,by omega,by omega⟩)
  clear hi2 hB hd
  rcases hcase with h1 | ⟨h1,h2⟩ | ⟨h1,h2,h3,h4⟩
  all_goals
   go_enter Tryz.func135,Tryz.ntmps135
   go_wp2_with fail
   go_ret
   exact ⟨ret_int (by omega),rfl⟩
 | false =>
  rw [hB] at hi2 hR
  rw [if_neg (by simp)] at hR
  have h1 : ((s[i].toNat : Int) == 32) = false:=by cases h : ((s[i].toNat : Int) == 32) with | false => rfl | true => rw [h] at hi2; simp at hi2
  have h2 : ((s[i].toNat : Int) == 9) = false:=by cases h : ((s[i].toNat : Int) == 9) with | false => rfl | true => rw [h] at hi2; simp at hi2
  have h3 : (s[i].toNat : Int) < 11 ∨ (11 ≤ (s[i].toNat : Int) ∧ 13 < (s[i].toNat : Int)):=by
   rw [h1,h2] at hi2
   simp at hi2
   omega
  have HR:=Lib.hid hR
  clear hi2 hB hd hR
  cases hL : [47,47].isPrefixOf (s.data.toList.drop i) with
  | true =>
   have hR2 : R = i + Lx.lineLen (s.data.toList.drop i):=by rw [HR.out,comment_line _ hL]
   have HL:=Lib.hid hL
   have HR2:=Lib.hid hR2
   clear hL hR2
   rcases h3 with h3 | ⟨h3,h4⟩
   all_goals
    go_enter Tryz.func135,Tryz.ntmps135
    go_wp2_with fail
    refine (is_any s ⟨#[47,47]⟩ i hs (by omega) (by decide) (by decide) _).mono ?_
    rintro e w' ⟨rfl,rfl⟩
    rw [show (⟨#[47,47]⟩ : ByteArray).data.toList = [47,47] from rfl,HL.out]
    go_wp2_with fail
    go_loop [1] (fun x => ∃ k : Nat,x = .int .i64 k ∧ k ≤ s.size ∧ R = k + Lx.lineLen (s.data.toList.drop k)) (fun x => s.size - (intOf x).toNat)
    case atStart => exact ⟨i,rfl,by omega,HR2.out⟩
    case round =>
     obtain ⟨k,rfl,hk,he⟩:=hrel
     have HE:=Lib.hid he
     clear he
     by_cases hlt : k < s.size
     ·have hd:=Lib.hid (drop_at s k hlt)
      by_cases hnl : s[k] = 10
      ·have t1 : ((s[k].toNat : Int) == 10) = true:=u8_eq hnl
       have t2 : ((s[k].toNat : Int) != 10) = false:=by simp [bne,t1]
       have HN:=Lib.hid hnl
       clear hnl
       go_wp2_with fail
       go_ret
       exact ⟨ret_int (by rw [HE.out,hd.out,HN.out,line_no]; simp),rfl⟩
      ·have t1 : ((s[k].toNat : Int) == 10) = false:=u8_ne hnl
       have t2 : ((s[k].toNat : Int) != 10) = true:=by simp [bne,t1]
       have HN:=Lib.hid hnl
       clear hnl
       go_wp2_with fail
       go_round
       case rel => exact ⟨k + 1,by go_num,by omega,by rw [HE.out,hd.out,line_yes _ _ HN.out]; omega⟩
       case measure => simp [intOf]; omega
     ·go_wp2_with fail
      go_ret
      exact ⟨ret_int (by rw [HE.out,drop_end s k (by omega)]; simp [Lx.lineLen]),rfl⟩
  | false =>
   cases hK : [47,42].isPrefixOf (s.data.toList.drop i) with
   | true =>
    obtain ⟨h2l,hce⟩:=comment_block _ hK i
    rw [← HR.out,List.drop_drop] at hce
    rw [List.length_drop,size_list] at h2l
    have HL:=Lib.hid hL
    have HK:=Lib.hid hK
    have HC:=Lib.hid hce
    clear hL hK hce
    rcases h3 with h3 | ⟨h3,h4⟩
    all_goals
     go_enter Tryz.func135,Tryz.ntmps135
     go_wp2_with fail
     refine (is_any s ⟨#[47,47]⟩ i hs (by omega) (by decide) (by decide) _).mono ?_
     rintro e w' ⟨rfl,rfl⟩
     rw [show (⟨#[47,47]⟩ : ByteArray).data.toList = [47,47] from rfl,HL.out]
     go_wp2_with fail
     refine (is_any s ⟨#[47,42]⟩ i hs (by omega) (by decide) (by decide) _).mono ?_
     rintro e w' ⟨rfl,rfl⟩
     rw [show (⟨#[47,42]⟩ : ByteArray).data.toList = [47,42] from rfl,HK.out]
     go_wp2_with fail
     go_loop [7] (fun x => ∃ k : Nat,x = .int .i64 k ∧ i + 2 ≤ k ∧ k ≤ s.size ∧ R = cend i k (Lx.clos (s.data.toList.drop k))) (fun x => s.size - (intOf x).toNat)
     case atStart => exact ⟨i + 2,by go_num,Nat.le_refl _,by omega,HC.out⟩
     case round =>
      obtain ⟨k,rfl,hk2,hk,he⟩:=hrel
      have HE:=Lib.hid he
      clear he
      by_cases hlt : k < s.size
      ·have hd:=Lib.hid (drop_at s k hlt)
       cases hQ : [42,47].isPrefixOf (s.data.toList.drop k) with
       | true =>
        have HQ:=Lib.hid hQ
        clear hQ
        go_wp2_with fail
        refine (is_any s ⟨#[42,47]⟩ k hs (by omega) (by decide) (by decide) _).mono ?_
        rintro e w' ⟨rfl,rfl⟩
        rw [show (⟨#[42,47]⟩ : ByteArray).data.toList = [42,47] from rfl,HQ.out]
        go_wp2_with fail
        go_ret
        exact ⟨ret_int (by rw [HE.out,clos_hit _ HQ.out]; simp [cend]),rfl⟩
       | false =>
        have hQ':=hQ
        rw [hd.out] at hQ'
        have HQ:=Lib.hid hQ
        have HQ':=Lib.hid hQ'
        clear hQ hQ'
        go_wp2_with fail
        refine (is_any s ⟨#[42,47]⟩ k hs (by omega) (by decide) (by decide) _).mono ?_
        rintro e w' ⟨rfl,rfl⟩
        rw [show (⟨#[42,47]⟩ : ByteArray).data.toList = [42,47] from rfl,HQ.out]
        go_wp2_with fail
        go_round
        case rel => exact ⟨k + 1,by go_num,by omega,by omega,by rw [HE.out,hd.out,clos_on _ _ HQ'.out,cend_map]⟩
        case measure => simp [intOf]; omega
      ·go_wp2_with fail
       go_ret
       exact ⟨ret_int (by rw [HE.out,drop_end s k (by omega)]; rfl),rfl⟩
   | false =>
    have hR2 : R = i:=by rw [HR.out,comment_no _ hL hK]; rfl
    have HL:=Lib.hid hL
    have HK:=Lib.hid hK
    subst hR2
    clear hL hK
    rcases h3 with h3 | ⟨h3,h4⟩
    all_goals
     go_enter Tryz.func135,Tryz.ntmps135
     go_wp2_with fail
     refine (is_any s ⟨#[47,47]⟩ _ hs (by omega) (by decide) (by decide) _).mono ?_
     rintro e w' ⟨rfl,rfl⟩
     rw [show (⟨#[47,47]⟩ : ByteArray).data.toList = [47,47] from rfl,HL.out]
     go_wp2_with fail
     refine (is_any s ⟨#[47,42]⟩ _ hs (by omega) (by decide) (by decide) _).mono ?_
     rintro e w' ⟨rfl,rfl⟩
     rw [show (⟨#[47,42]⟩ : ByteArray).data.toList = [47,42] from rfl,HK.out]
     go_wp2_with fail
     go_ret
     exact ⟨rfl,rfl⟩
theorem word_any (s : ByteArray) (i : Nat) (hs : s.size ≤ 4000000000) (hi : i < s.size) (w : World) :
  Calls Tryz.prog 171 #[.string s, .int .i64 i] w fun e w' => e = .returned (.int .i64 (rword (s.data.toList.drop i))) ∧ w = w':=by
 have hd:=drop_at s i hi
 obtain ⟨R,hR⟩ : ∃ R,R = rword (s.data.toList.drop i):=⟨_,rfl⟩
 rw [← hR]
 cases hL : Lx.letter s[i] with
 | true =>
  have hR2 : R = Lx.wordLen (s.data.toList.drop i):=by rw [hR,hd,rword_cons,if_pos hL]
  have HR:=Lib.hid hR2
  have HL:=Lib.hid hL
  clear hR hR2 hd hL
  go_enter Tryz.func171,Tryz.ntmps171
  go_wp2_with fail
  go_loop [5] (fun n => ∃ k : Nat,n = .int .i64 k ∧ i + k ≤ s.size ∧ R = k + Lx.wordLen (s.data.toList.drop (i + k))) (fun n => s.size - (intOf n).toNat)
  case atStart => exact ⟨0,rfl,by omega,by rw [HR.out]; simp⟩
  case round =>
   obtain ⟨k,rfl,hk,he⟩:=hrel
   have HE:=Lib.hid he
   clear he
   by_cases hlt : i + k < s.size
   ·have hd:=Lib.hid (drop_at s (i + k) hlt)
    cases hL2 : Lx.letter s[i + k] with
    | true =>
     go_wp2_with (go_at_call 203; refine (rletter_any _ _).mono ?_; rintro e w' ⟨rfl,rfl⟩)
     go_round
     case rel => exact ⟨k + 1,by go_num,by omega,by rw [HE.out,hd.out,word_yes _ _ (by simp [Lx.alnum,hL2])]; rw [show i + (k + 1) = i + k + 1 by omega]; omega⟩
     case measure => simp [intOf]; omega
    | false =>
     have hk0 : 0 < k:=by
      rcases Nat.eq_zero_or_pos k with h | h
      ·exfalso
       subst h
       have:=HL.out
       simp only [Nat.add_zero] at hL2
       rw [this] at hL2; cases hL2
      ·exact h
     cases hD : Lx.digit s[i + k] with
     | true =>
      go_wp2_with (first | (go_at_call 203; refine (rletter_any _ _).mono ?_; rintro e w' ⟨rfl,rfl⟩) | (go_at_call 204; refine (rdigit_any _ _).mono ?_; rintro e w' ⟨rfl,rfl⟩))
      go_round
      case rel => exact ⟨k + 1,by go_num,by omega,by rw [HE.out,hd.out,word_yes _ _ (by simp [Lx.alnum,hD])]; rw [show i + (k + 1) = i + k + 1 by omega]; omega⟩
      case measure => simp [intOf]; omega
     | false =>
      go_wp2_with (first | (go_at_call 203; refine (rletter_any _ _).mono ?_; rintro e w' ⟨rfl,rfl⟩) | (go_at_call 204; refine (rdigit_any _ _).mono ?_; rintro e w' ⟨rfl,rfl⟩))
      go_ret
      refine ⟨ret_int ?_,rfl⟩
      rw [HE.out,hd.out,word_no _ _ (by simp [Lx.alnum,hL2,hD])]; simp
   ·go_wp2_with fail
    go_ret
    refine ⟨ret_int ?_,rfl⟩
    rw [HE.out,drop_end s (i + k) (by omega)]; simp [Lx.wordLen]
 | false =>
  have hR2 : R = 0:=by rw [hR,hd,rword_cons,if_neg (by rw [hL]; simp)]
  subst hR2
  clear hR hd
  go_enter Tryz.func171,Tryz.ntmps171
  go_wp2_with fail
  go_loop [5] (fun n => n = .int .i64 0) (fun n => 0)
  case atStart => exact rfl
  case round =>
   obtain rfl:=hrel
   go_wp2_with (go_at_call 203; refine (rletter_any _ _).mono ?_; rintro e w' ⟨rfl,rfl⟩)
   go_ret
   exact ⟨rfl,rfl⟩
end
section
open Go.RowKit Go.Shelf
open Lx (T)
theorem rnumber_any (s : ByteArray) (i : Nat) (hs : s.size ≤ 4000000000) (hi : i < s.size) (w : World) :
  Calls Tryz.prog 172 #[.string s, .int .i64 i] w fun e w' => e = .returned (.int .i64 (Lx.numLen (s.data.toList.drop i))) ∧ w = w':=by
 have hd:=drop_at s i hi
 have hnl:=Lx.numLen_cons s[i] (s.data.toList.drop (i + 1))
 rw [← hd,u8_beq,show ((46 : UInt8).toNat : Int) = 46 from rfl] at hnl
 have hyes : ∀ h1 : i + 1 < s.size,Lx.headDigit (s.data.toList.drop (i + 1)) = Lx.digit s[i + 1]:=fun h1 => by rw [drop_at s (i + 1) h1]; rfl
 have hno : ¬ i + 1 < s.size → Lx.headDigit (s.data.toList.drop (i + 1)) = false:=fun h1 => by rw [drop_end s (i + 1) (by omega)]; rfl
 obtain ⟨R,hR⟩ : ∃ R,R = Lx.numLen (s.data.toList.drop i):=⟨_,rfl⟩
 rw [← hR] at hnl ⊢
 clear hR hd
 by_cases hN : (Lx.digit s[i] || (((s[i].toNat : Int) == 46) && Lx.headDigit (s.data.toList.drop (i + 1)))) = true
 ·rw [if_pos hN] at hnl
  have hcase : Lx.digit s[i] = true ∨ (Lx.digit s[i] = false ∧ ((s[i].toNat : Int) == 46) = true ∧ ∃ h : i + 1 < s.size,Lx.digit s[i + 1] = true):=by
   cases hD : Lx.digit s[i] with
   | true => exact .inl rfl
   | false =>
    rw [hD,Bool.false_or,Bool.and_eq_true] at hN
    refine .inr ⟨rfl,hN.1,?_⟩
    by_cases h1 : i + 1 < s.size
    ·exact ⟨h1,by rw [← hyes h1]; exact hN.2⟩
    ·have:=hN.2; rw [hno h1] at this; cases this
  have HR:=Lib.hid hnl
  have HC:=Lib.hid hcase
  obtain ⟨D,hD⟩ : ∃ D,D = Lx.digit s[i]:=⟨_,rfl⟩
  have HD:=Lib.hid hD
  clear hN hyes hno hnl hcase hD
  go_enter Tryz.func172,Tryz.ntmps172
  go_upto_region 2 with (go_at_call 204; refine (rdigit_any _ _).mono ?_; rintro e w' ⟨rfl,rfl⟩; rw [← HD.out])
  go_cut [35] (fun s35 wx => s35 = .bool false ∧ wx = w)
  case first =>
   rcases HC.out with h1 | ⟨h1,h2,h3,h4⟩
   all_goals
    obtain rfl:=HD.out.trans h1
    clear h1
    go_wp2_with (go_at_call 204; refine (rdigit_any _ _).mono ?_; rintro e w' ⟨rfl,rfl⟩)
    go_meet
    exact ⟨rfl,rfl⟩
  case rest =>
   obtain ⟨rfl,rfl⟩:=hcut
   go_wp2_with fail
   go_loop [6] (fun n => ∃ k : Nat,n = .int .i64 k ∧ 1 ≤ k ∧ i + k ≤ s.size ∧ R = k + Lx.numRest (s.data.toList.drop (i + k))) (fun n => s.size - (intOf n).toNat)
   case atStart => exact ⟨1,rfl,Nat.le_refl _,by omega,HR.out⟩
   case round =>
    obtain ⟨k,rfl,hk1,hk,he⟩:=hrel
    by_cases hlt : i + k < s.size
    ·obtain ⟨q1,q2,q3⟩:=num_step s i k R hlt he
     have HQ1:=Lib.hid q1
     have HQ2:=Lib.hid q2
     have HQ3:=Lib.hid q3
     obtain ⟨SG,hSG⟩ : ∃ SG,SG = sgAt s (i + k):=⟨_,rfl⟩
     obtain ⟨X,hX⟩ : ∃ X,X = expo (s.data.toList.drop (i + k)):=⟨_,rfl⟩
     have hXE : X = (Lx.isE s[i + k] && SG):=by rw [hX,hSG,expo_sg s (i + k) hlt]
     have HX:=Lib.hid hX
     have HSG:=Lib.hid hSG
     have HXE:=Lib.hid hXE
     clear q1 q2 q3 he hX hSG hXE
     go_upto_region 7 with (fail)
     go_cut [8] (fun s8 wx => s8 = .bool SG ∧ wx = wc)
     case first =>
      rcases sg_cases s (i + k) with ⟨x0,x1⟩ | ⟨x0,x1,x2⟩ | ⟨x0,x1,x2,x3⟩ | ⟨x0,x1,x2,x3⟩
      all_goals
       rw [← HSG.out] at x0
       have HX0:=Lib.hid x0
       clear x0
       go_wp2_with fail
       go_meet
       exact ⟨by rw [HX0.out],rfl⟩
     case rest =>
      obtain ⟨rfl,rfl⟩:=hcut
      go_upto_region 8 with (fail)
      go_cut [88] (fun s88 wx => s88 = .bool X ∧ wx = wc)
      case first =>
       have hxe:=HXE.out
       cases hE : Lx.isE s[i + k] with
       | true =>
        rw [hE,Bool.true_and] at hxe
        have HH:=Lib.hid hxe
        rcases isE_cases _ hE with y1 | ⟨y1,y2⟩ | ⟨y1,y2,y3⟩ | ⟨y1,y2,y3,y4⟩
        all_goals
         clear hE hxe
         go_wp2_with fail
         go_meet
         exact ⟨by rw [HH.out],rfl⟩
       | false =>
        rw [hE,Bool.false_and] at hxe
        have HH:=Lib.hid hxe
        obtain ⟨y1,y2,y3,y4⟩:=isE_none _ hE
        clear hE hxe
        go_wp2_with fail
        go_meet
        exact ⟨by rw [HH.out],rfl⟩
      case rest =>
       obtain ⟨rfl,rfl⟩:=hcut
       cases hXX : X with
       | true =>
        have HY:=Lib.hid (HQ1.out (by rw [← HX.out]; exact hXX))
        clear hXX
        go_wp2_with fail
        go_round
        case rel => exact ⟨k + 2,by go_num,by omega,by have:=HY.out.1; omega,HY.out.2⟩
        case measure => simp [intOf]; omega
       | false =>
        have HXX:=Lib.hid (HX.out.symm.trans hXX)
        clear hXX
        rcases numc_cases s[i + k] with ⟨y0,y1 | ⟨y1,y2⟩ | ⟨y1,y2,y3⟩⟩ | ⟨y0,y1,y2,y3⟩
        ·have HY:=Lib.hid (HQ2.out HXX.out y0)
         clear y0
         go_wp2_with (first | (go_at_call 203; refine (rletter_any _ _).mono ?_; rintro e w' ⟨rfl,rfl⟩) | (go_at_call 204; refine (rdigit_any _ _).mono ?_; rintro e w' ⟨rfl,rfl⟩))
         go_round
         case rel => exact ⟨k + 1,by go_num,by omega,by omega,HY.out⟩
         case measure => simp [intOf]; omega
        ·have HY:=Lib.hid (HQ2.out HXX.out y0)
         clear y0
         go_wp2_with (first | (go_at_call 203; refine (rletter_any _ _).mono ?_; rintro e w' ⟨rfl,rfl⟩) | (go_at_call 204; refine (rdigit_any _ _).mono ?_; rintro e w' ⟨rfl,rfl⟩))
         go_round
         case rel => exact ⟨k + 1,by go_num,by omega,by omega,HY.out⟩
         case measure => simp [intOf]; omega
        ·have HY:=Lib.hid (HQ2.out HXX.out y0)
         have y4 : ((s[i + k].toNat : Int) != 46) = false:=by simp [bne,y3]
         clear y0
         go_wp2_with (first | (go_at_call 203; refine (rletter_any _ _).mono ?_; rintro e w' ⟨rfl,rfl⟩) | (go_at_call 204; refine (rdigit_any _ _).mono ?_; rintro e w' ⟨rfl,rfl⟩))
         go_round
         case rel => exact ⟨k + 1,by go_num,by omega,by omega,HY.out⟩
         case measure => simp [intOf]; omega
        ·have HY:=Lib.hid (HQ3.out HXX.out y0)
         have y4 : ((s[i + k].toNat : Int) != 46) = true:=by simp [bne,y3]
         clear y0
         go_wp2_with (first | (go_at_call 203; refine (rletter_any _ _).mono ?_; rintro e w' ⟨rfl,rfl⟩) | (go_at_call 204; refine (rdigit_any _ _).mono ?_; rintro e w' ⟨rfl,rfl⟩))
         go_ret
         exact ⟨ret_int (by rw [HY.out]),rfl⟩
    ·have HE:=Lib.hid he
     clear he
     go_wp2_with fail
     go_ret
     exact ⟨ret_int (by rw [HE.out,drop_end s (i + k) (by omega)]; simp [Lx.numRest]),rfl⟩
 ·rw [if_neg hN] at hnl
  subst hnl
  have hcase : (Lx.digit s[i] = false ∧ ((s[i].toNat : Int) == 46) = false) ∨ (Lx.digit s[i] = false ∧ ((s[i].toNat : Int) == 46) = true ∧ ¬ i + 1 < s.size) ∨ (Lx.digit s[i] = false ∧ ((s[i].toNat : Int) == 46) = true ∧ ∃ h : i + 1 < s.size,Lx.digit s[i + 1] = false):=by
   cases hD : Lx.digit s[i] with
   | true => rw [hD] at hN; simp at hN
   | false =>
    rw [hD,Bool.false_or] at hN
    cases h46 : ((s[i].toNat : Int) == 46) with
    | false => exact .inl ⟨rfl,rfl⟩
    | true =>
     rw [h46,Bool.true_and] at hN
     by_cases h1 : i + 1 < s.size
     ·rw [hyes h1] at hN
      exact .inr (.inr ⟨rfl,rfl,h1,by simpa using hN⟩)
     ·exact .inr (.inl ⟨rfl,rfl,h1⟩)
  clear hN hyes hno
  rcases hcase with ⟨h1,h2⟩ | ⟨h1,h2,h3⟩ | ⟨h1,h2,h3,h4⟩
  all_goals
   go_enter Tryz.func172,Tryz.ntmps172
   go_wp2_with (go_at_call 204; refine (rdigit_any _ _).mono ?_; rintro e w' ⟨rfl,rfl⟩)
   go_ret
   exact ⟨rfl,rfl⟩
end
end Go.Proofs.YthekfpgegiffoaaGreatDoor
