/- What is proved: PresenceBoth answers true. (and what stands with it) -/
import Derived.Test.YthekfpgegiffoaaGreatDoorQz
import Derived.Test.YthekfpgegiffoaaGreatDoorQza
set_option linter.unusedSimpArgs false
set_option linter.unusedVariables false
set_option maxHeartbeats 16000000
set_option maxRecDepth 100000
namespace Go.Proofs.YthekfpgegiffoaaGreatDoor
section
open Go.RowKit Go.Shelf
open Bdd (Ar Nd Keep TellsN)
theorem LinesPost.any {w w' : World} {B p m v L : Nat} {sv : Value} {ds : List Bd.Dec} {R : Except (Nat × Int) Pm.Nn} {e : Ending} (hA : Ar w B p m sv v ds) (h : LinesPost w B p m sv v ds L R e w') :
  ∃ (ad : Option Addr) (n cap : Nat) (li er : Int) (ds' : List Bd.Dec) (sv' : Value) (ys : List Nat),e = .returned (.tuple #[.slice ad n cap, .int .i64 li, .int .i64 er]) ∧ n ≤ cap ∧ cap ≤ maxLen ∧ ys.length = n ∧ w'.ownsRow w.heap.size 39 1 (.slice ad n cap) n (nodeL ys) ∧ Ar w' B p m sv' v ds' ∧ Keep ds ds' ∧ Bdd.Fr p m sv w sv' w' ∧ ds'.length ≤ ds.length + 510 * 2 ^ v * L ∧
   ((er ≠ 0 ∧ ∃ x,R = .error x) ∨ (er = 0 ∧ n = L ∧ ∃ N,R = .ok N ∧ ∀ i y : Nat,ys[i]? = some y → Nd v ds' y (N i))):=by
 cases R with
 | error x =>
  obtain ⟨rfl,h2,h3⟩:=h
  exact ⟨none,0,0,_,_,ds,sv,[],rfl,Nat.le_refl _,Nat.zero_le _,rfl,World.ownsRow_nil _ _ _ _,hA.below h3,Keep.refl _,Bdd.Fr.of_below h3 _ _ _,Nat.le_add_right _ _, .inl ⟨h2,x,rfl⟩⟩
 | ok N =>
  obtain ⟨o,ds',sv',ys,rfl,h1,h2,h3,h4,h5,h6,h7⟩:=h
  obtain ⟨ad,cap,rfl,hc1,hc2⟩ : ∃ ad cap,o = .slice ad L cap ∧ L ≤ cap ∧ cap ≤ maxLen:=by
   rcases h4.2 with ⟨h,h0⟩ | ⟨g,cap,cur,h,_,_,h8,h9, -⟩
   ·exact ⟨none,0,by rw [h,h0],by omega,Nat.zero_le _⟩
   ·exact ⟨_,cap,h,h8,h9⟩
  exact ⟨ad,L,cap,0,0,ds',sv',ys,rfl,hc1,hc2,h5,h4,h1,h2,h3,h7, .inr ⟨rfl,rfl,N,rfl,h6⟩⟩
theorem lboth_any (nv : Value) (ns : List ByteArray) (s t : ByteArray) (hs : s.size ≤ maxLen) (ht : t.size ≤ maxLen) (w : World) (hG : Gv w) (hn : Sts w nv ns) : Calls Tryz.prog 7 #[nv, .string s, .string t] w (TrueB w):=by
 obtain ⟨nad,nc,rfl,nc1,nc2, -⟩:=id hn
 obtain ⟨v,hv⟩ : ∃ v,v = ns.length:=⟨_,rfl⟩
 rw [← hv] at hn nc1 ⊢
 have KA:=Lib.hid (awake_any w hG)
 have HG:=Lib.hid hG
 have HN:=Lib.hid hn
 have HV:=Lib.hid hv
 unfold maxLen at nc2 hs ht
 clear hG hn hv
 go_enter Tryz.func7,Tryz.ntmps7
 go_wp2_with fail
 refine KA.out.mono ?_
 rintro e w1 ⟨rfl,hb1⟩
 have KR:=Lib.hid (right_any (.slice nad v nc) ns w1 (HN.out.below hb1))
 have HB1:=Lib.hid hb1
 clear hb1 KA
 go_wp2_with fail
 refine KR.out.mono ?_
 rintro e w2 ⟨b,rfl,hgood,hb2⟩
 have HB2:=Lib.hid (Below.then HB1.out hb2)
 clear hb2 KR
 cases b with
 | false =>
  clear hgood
  go_wp2_with fail
  go_ret
  exact ⟨rfl,HB2.out⟩
 | true =>
  have HGd:=Lib.hid (hgood rfl)
  clear hgood
  go_upto_region 3 with fail
  go_cut [56] from 27 to 56 (fun c wx => ∃ b' : Bool,c = .bool b' ∧ wx = w2 ∧ (b' = false → v ≤ 4 ∧ s.size ≤ 200 ∧ t.size ≤ 200))
  case first =>
   by_cases h4 : 4 < v
   ·have e1 : (4 : Int) < v:=by omega
    go_wp2_with fail
    go_meet
    exact ⟨true,rfl,rfl,fun h => by cases h⟩
   ·have e1 : ¬ (4 : Int) < v:=by omega
    by_cases hs2 : 200 < s.size
    ·have e2 : (200 : Int) < s.size:=by omega
     go_wp2_with fail
     go_meet
     exact ⟨true,rfl,rfl,fun h => by cases h⟩
    ·have e2 : ¬ (200 : Int) < s.size:=by omega
     by_cases ht2 : 200 < t.size
     ·have e3 : (200 : Int) < t.size:=by omega
      go_wp2_with fail
      go_meet
      exact ⟨true,rfl,rfl,fun h => by cases h⟩
     ·have e3 : ¬ (200 : Int) < t.size:=by omega
      go_wp2_with fail
      all_goals
       go_meet
       exact ⟨_,rfl,rfl,fun _ => ⟨by omega,by omega,by omega⟩⟩
  case rest =>
   obtain ⟨b',rfl,hwx,hsm⟩:=hcut
   obtain rfl:=hwx.symm
   cases b' with
   | true =>
    go_wp2_with fail
    go_ret
    exact ⟨rfl,HB2.out⟩
   | false =>
    obtain ⟨h4,hs2,ht2⟩:=hsm rfl
    clear hs ht hsm
    go_wp2_with fail
    go_loopw [9] (fun a wr => ∃ k : Nat,a = .int .i64 k ∧ k ≤ s.size ∧ wr = w2) (fun a _ => s.size - (intOf a).toNat)
    case atStart => exact ⟨0,rfl,Nat.zero_le _,rfl⟩
    case round =>
     obtain ⟨k,rfl,hk,hwr⟩:=hrel
     obtain rfl:=hwr.symm
     by_cases hlt : k < s.size
     ·have z1 : (0 : Int) ≤ k:=by omega
      have z2 : (k : Int) < s.size:=by omega
      by_cases hc : ((s[k].toNat : Int) == 47) = true
      ·go_wp2_with fail
       go_ret
       exact ⟨rfl,HB2.out⟩
      ·have hc2 : ((s[k].toNat : Int) == 47) = false:=by simpa using hc
       clear hc
       go_wp2_with fail
       go_roundw
       case rel => exact ⟨k + 1,by go_num,hlt,trivial⟩
       case measure => simp [intOf]; omega
     ·obtain rfl : k = s.size:=by omega
      have KN:=Lib.hid (Bdd.new_yes v (by omega) w2)
      go_wp2_with fail
      refine KN.out.mono ?_
      rintro e w3 ⟨rfl,hA3,hb3⟩
      have HA3:=Lib.hid hA3
      have HB3:=Lib.hid hb3
      obtain ⟨s1,hs1⟩ : ∃ s1,s1 = s ++ ⟨#[10]⟩:=⟨_,rfl⟩
      have hz1 : s1.size ≤ 201:=by rw [hs1,ByteArray.size_append]; show s.size + 1 ≤ 201; omega
      have KL1:=Lib.hid (l12lines_any s1 (by omega) w3 (HG.out.later (Below.then HB2.out hb3)))
      have HS1:=Lib.hid hs1
      have HZ1:=Lib.hid hz1
      clear hA3 hb3 KN
      rw [hs1] at KL1
      go_wp2_with fail
      refine KL1.out.mono ?_
      rintro e w4 ⟨u1,rfl,hu1,hb4⟩
      rw [← hs1] at hu1
      have hB4:=Below.then HB2.out (Below.then HB3.out hb4)
      have HB4:=Lib.hid hB4
      have KL2:=Lib.hid (l12lines_any t (by omega) w4 (HG.out.later hB4))
      have HA4:=Lib.hid (HA3.out.below hb4)
      have HB34:=Lib.hid hb4
      clear hs1 hB4 KL1
      go_wp2_with fail
      refine KL2.out.mono ?_
      rintro e w5 ⟨u2,rfl,hu2,hb5⟩
      have HB5:=Lib.hid (Below.then HB4.out hb5)
      have HA5:=Lib.hid (HA4.out.below hb5)
      have HB35:=Lib.hid (Below.then HB34.out hb5)
      have HU1:=Lib.hid (hu1.below hb5)
      have HU2:=Lib.hid hu2
      obtain ⟨hl1,hl2⟩:=linesOf_small s1 (by omega)
      obtain ⟨hm1,hm2⟩:=linesOf_small t (by omega)
      obtain ⟨A,hAA⟩ : ∃ A,A = linesOf s1:=⟨_,rfl⟩
      obtain ⟨B,hBB⟩ : ∃ B,B = linesOf t:=⟨_,rfl⟩
      rw [← hAA] at HU1 hl1 hl2
      rw [← hBB] at HU2 hm1 hm2
      have HL:=Lib.hid (And.intro hl1 (And.intro hl2 (And.intro hm1 hm2)))
      have hp16 : 2 ^ v ≤ 2 ^ 4:=Nat.pow_le_pow_right (by omega) h4
      rw [show (2 : Nat) ^ 4 = 16 from rfl] at hp16
      have HP16:=Lib.hid hp16
      have KP1:=Lib.hid (plines_any w2.heap.size (w2.heap.size + 1) w2.heap.size v (.slice none 0 0) [] (.slice nad v nc) u1 ns A w5 HA5.out (HN.out.below HB5.out) HU1.out (HG.out.later HB5.out) HGd.out.nml HV.out hl2 (by omega) (by show (510 * 2 ^ v + 1540) * A.length ≤ _; exact Nat.le_trans (Nat.mul_le_mul (show 510 * 2 ^ v + 1540 ≤ 9700 by omega) (show A.length ≤ 201 by omega)) (by omega)) (by show 0 + 510 * 2 ^ v * A.length ≤ _; have:=Nat.mul_le_mul (show 510 * 2 ^ v ≤ 8160 by omega) (show A.length ≤ 201 by omega); omega))
      clear hu1 hb4 KL2 hu2 hb5 hl1 hl2 hm1 hm2 hAA hBB hz1 hp16
      go_wp2_with fail
      refine KP1.out.mono ?_
      intro e w6 hp
      obtain ⟨ad1,n1,cap1,li1,er1,ds1,sv1,ys1,rfl,hc1,hc2,hy1,hr1,hA6,hk6,hF6,hf6,hres1⟩:=hp.any HA5.out
      have hb6 : Below w.heap.size w w6:=Bdd.below_of_fr HB5.out (Nat.le_refl _) hF6 (by have:=HB2.out.size; omega) (by have:=HB2.out.size; omega) (fun k e => by cases e)
      have hb26 : Below w2.heap.size w2 w6:=Bdd.below_of_fr (Below.then HB3.out HB35.out) (Nat.le_refl _) hF6 (Nat.le_succ _) (Nat.le_refl _) (fun k e => by cases e)
      have hu26:=HU2.out.fr HA5.out hF6
      have hbB : 510 * 2 ^ v ≤ 8160:=by have:=HP16.out; omega
      obtain ⟨-, -,hm1,hm2⟩:=HL.out
      obtain ⟨hl1, -⟩:=HL.out
      have hz1:=HZ1.out
      have hc6 : ds1.length ≤ 8160 * 201:=by
       have:=Nat.mul_le_mul hbB (show A.length ≤ 201 by omega)
       have:=hf6
       simp only [List.length_nil] at this
       omega
      have hc7:=Nat.mul_le_mul hbB (show B.length ≤ 200 by omega)
      have KP2:=Lib.hid (plines_any w2.heap.size (w2.heap.size + 1) w2.heap.size v sv1 ds1 (.slice nad v nc) u2 ns B w6 hA6 (HN.out.below hb6) hu26 (HG.out.later hb6) HGd.out.nml HV.out hm2 (by omega) (by show (510 * 2 ^ v + 1540) * B.length ≤ _; exact Nat.le_trans (Nat.mul_le_mul (show 510 * 2 ^ v + 1540 ≤ 9700 by omega) (show B.length ≤ 200 by omega)) (by omega)) (by omega))
      have HB6:=Lib.hid (And.intro hb6 hb26)
      have HC6:=Lib.hid (And.intro hc6 hc7)
      have HR1:=Lib.hid (And.intro hres1 (And.intro hy1 hr1))
      have HA6:=Lib.hid (And.intro hA6 (And.intro hk6 hF6))
      unfold maxLen at hc2
      clear hz1 hp hb6 hb26 hu26 hbB hm1 hm2 hl1 hc6 hc7 hres1 hy1 hr1 hA6 hk6 hF6 hf6 KP1
      go_wp2_with fail
      refine KP2.out.mono ?_
      intro e w7 hp
      obtain ⟨ad2,n2,cap2,li2,er2,ds2,sv2,ys2,rfl,hc3,hc4,hy2,hr2,hA7,hk7,hF7,hf7,hres2⟩:=hp.any HA6.out.1
      have HA7:=Lib.hid (And.intro hA7 (And.intro hk7 (And.intro (HA6.out.2.2.trans hF7) hf7)))
      have HR2:=Lib.hid (And.intro hres2 (And.intro hy2 hr2))
      have HF7:=Lib.hid hF7
      unfold maxLen at hc4
      clear hp hres2 hy2 hr2 hA7 hk7 hF7 hf7 KP2
      go_upto_region 17 with fail
      have hA1:=HU1.out.fr HA5.out HA7.out.2.2.1
      have hA2:=HU2.out.fr HA5.out HA7.out.2.2.1
      have hBe : Below w7.heap.size w7 (w7.alloc (.cells #[] 46)):=(Below.refl _ w7).alloc (Nat.le_refl _) _
      have hre:=row_emptyL w7
      have hAl : A.length ≤ 201:=by have:=HL.out.1; have:=HZ1.out; omega
      have hBl : B.length ≤ 200:=by have:=HL.out.2.2.1; omega
      have HAB:=Lib.hid (And.intro hAl hBl)
      go_wp2_with (first
       | (at_builtin; refine wpList_append_lns hBe rfl _ _ rfl w7.heap.size (.slice (some ⟨w7.heap.size,0,none⟩) 0 0) [] [] rfl hre (SlK.nil _) u1 A rfl hA1 (by simp only [List.length_nil]; omega) hBe.size ?_; intro x4 w8 vs4 hr4 hk4 hg4; have hB8:=hBe.grown hg4 hBe.size (by intro k e; simp [Value.ownBlock] at e; omega))
       | (at_builtin; refine wpList_append_lns hB8 rfl _ _ rfl w7.heap.size x4 vs4 _ rfl hr4 hk4 u2 B rfl hA2 (by simp only [List.nil_append]; omega) hB8.size ?_; intro x5 w9 vs5 hr5 hk5 hg5; have hB9:=hB8.grown hg5 hB8.size (fun k e => (hr4.lt k e).1)))
      have hI:=Lns.of_row hr5 (hk5.below hB9)
      rw [List.nil_append] at hI
      have hF79:=HA7.out.2.2.1.trans (Bdd.Fr.of_below hB9 (w2.heap.size + 1) w2.heap.size sv2)
      have hB29 : Below w.heap.size w w9:=Bdd.below_of_fr HB5.out (Nat.le_refl _) hF79 (by have:=HB2.out.size; omega) (by have:=HB2.out.size; omega) (fun k e => by cases e)
      have hA9:=HA7.out.1.below hB9
      have hAB2:=HAB.out
      have hc2:=HC6.out
      have hcf:=HA7.out.2.2.2
      have hbB : 510 * 2 ^ v ≤ 8160:=by have:=HP16.out; omega
      have hlen : (A ++ B).length = A.length + B.length:=List.length_append
      have KP3:=Lib.hid (plines_any w2.heap.size (w2.heap.size + 1) w2.heap.size v sv2 ds2 (.slice nad v nc) x5 ns (A ++ B) w9 hA9 (HN.out.below hB29) hI (HG.out.later hB29) HGd.out.nml HV.out (fun x hx => by
       rcases List.mem_append.1 hx with hx | hx
       ·exact HL.out.2.1 x hx
       ·exact HL.out.2.2.2 x hx) (by omega) (by show (510 * 2 ^ v + 1540) * (A ++ B).length ≤ _; exact Nat.le_trans (Nat.mul_le_mul (show 510 * 2 ^ v + 1540 ≤ 9700 by omega) (show (A ++ B).length ≤ 401 by omega)) (by omega)) (by have:=Nat.mul_le_mul hbB (show (A ++ B).length ≤ 401 by omega); omega))
      have HA9:=Lib.hid (And.intro hA9 (And.intro hF79 hB9))
      clear hF79 hB29 hA9 hAB2 hc2 hcf hbB hlen hA1 hA2 hBe hre hAl hBl hr4 hk4 hg4 hB8 hr5 hk5 hg5 hB9 hI
      refine KP3.out.mono ?_
      intro e w10 hp
      obtain ⟨ad3,n3,cap3,li3,er3,ds3,sv3,ys3,rfl,hc5,hc6,hy3,hr3,hA10,hk10,hF10, -,hres3⟩:=hp.any HA9.out.1
      have hF:=HA9.out.2.1.trans hF10
      have HBW:=Lib.hid (Bdd.below_of_fr HB5.out (Nat.le_refl _) hF (by have:=HB2.out.size; omega) (by have:=HB2.out.size; omega) (fun k e => by cases e))
      have h2sz : w2.heap.size + 1 < w5.heap.size:=HA5.out.below (Below.refl _ _) |> fun h => Bdd.lt_of_get h.blk
      have h56:=HA6.out.2.2.size
      have hr1:=HR1.out.2.2
      have hr2:=HR2.out.2.2
      have F79 : Bdd.Fr (w2.heap.size + 1) w2.heap.size sv2 w7 sv2 w9:=Bdd.Fr.of_below HA9.out.2.2 _ _ _
      have F710:=F79.trans hF10
      have h12:=nodes_fr HA6.out.1 (HF7.out.trans F710) (by omega) (by omega) hr1
      have h22:=nodes_fr HA7.out.1 F710 (by omega) (by omega) hr2
      have HRW:=Lib.hid (And.intro h12 (And.intro h22 hr3))
      have HK:=Lib.hid (And.intro hA10 hk10)
      have HY:=Lib.hid (And.intro HR1.out.2.1 (And.intro HR2.out.2.1 hy3))
      have r1:=HR1.out.1
      have r2:=HR2.out.1
      have HR3:=Lib.hid hres3
      unfold maxLen at hc6
      clear h12 h22 hr3 F710 F79 hr1 hr2 h56 h2sz hF hF10 hp hA10 hk10 hy3 hres3 KP3
      rcases r1 with ⟨q1, -⟩ | ⟨rfl,rfl,N1,hN1,hn1⟩
      ·have q2 : (er1 != 0) = true:=by simpa using q1
       clear r2
       go_wp2_with fail
       go_ret
       exact ⟨rfl,HBW.out⟩
      ·rcases r2 with ⟨q1, -⟩ | ⟨rfl,rfl,N2,hN2,hn2⟩
       ·have q2 : (er2 != 0) = true:=by simpa using q1
        clear hn1
        go_wp2_with fail
        go_ret
        exact ⟨rfl,HBW.out⟩
       ·rcases HR3.out with ⟨-,x3,hx3⟩ | ⟨rfl,rfl,N3,hN3,hn3⟩
        ·obtain ⟨N,e, -, -⟩:=Pm.lines_both ns A B N1 N2 hN1 hN2
         rw [e] at hx3
         cases hx3
        ·have HS:=Lib.hid (fun i y h => both_same HK.out.1.wf hN1 hN2 hN3 (HA7.out.2.1.trans HK.out.2) HK.out.2 HY.out.1 hn1 hn2 hn3 i y h)
         obtain ⟨nA,hnA⟩ : ∃ n,n = A.length:=⟨_,rfl⟩
         obtain ⟨nB,hnB⟩ : ∃ n,n = B.length:=⟨_,rfl⟩
         rw [List.length_append,← hnA,← hnB] at HRW HY hc5 ⊢
         rw [← hnA] at hc1
         rw [← hnB] at hc3
         have b1:=HAB.out
         rw [← hnA,← hnB] at b1
         clear hn1 hn2 hn3 hN1 hN2 hN3 HR3 HR1 HR2 hnA hnB
         have b2 : ((((nA + nB : Nat) : Int)) != ((nA : Int) + nB)) = false:=by simp
         go_wp2_with fail
         go_loopw [23] (fun a wr => ∃ k : Nat,a = .int .i64 k ∧ k ≤ nA + nB ∧ Below w10.heap.size w10 wr) (fun a _ => nA + nB - (intOf a).toNat)
         case atStart => exact ⟨0,rfl,Nat.zero_le _,Below.refl _ _⟩
         case round =>
          obtain ⟨k,rfl,hk,hbr⟩:=hrel
          by_cases hlt3 : k < nA + nB
          ·obtain ⟨g3,rfl,hc3⟩:=nodes_cells HRW.out.2.2 HY.out.2.2 (by omega)
           obtain ⟨y,hy⟩ : ∃ y,ys3[k]? = some y:=⟨_,List.getElem?_eq_getElem (by rw [HY.out.2.2]; exact hlt3)⟩
           have d3:=hc3 k y hy
           replace d3:=(hbr.cell (p:=⟨g3,k,none⟩) (lt_of_cell d3)).trans d3
           have z1 : (0 : Int) ≤ k:=by omega
           have z2 : (k : Int) < ((nA + nB : Nat) : Int):=by omega
           have HBR:=Lib.hid hbr
           by_cases hA : k < nA
           ·obtain ⟨g1,rfl,hcc⟩:=nodes_cells HRW.out.1 HY.out.1 (by omega)
            obtain ⟨x,hx⟩ : ∃ x,ys1[k]? = some x:=⟨_,List.getElem?_eq_getElem (by rw [HY.out.1]; exact hA)⟩
            have d1:=hcc k x hx
            replace d1:=(hbr.cell (p:=⟨g1,k,none⟩) (lt_of_cell d1)).trans d1
            have exy:=(HS.out k y hy).1 x hx
            subst exy
            have z3 : (k : Int) < nA:=by omega
            have z4 : decide (nA ≤ k) = false:=decide_eq_false (by omega)
            have z5 : ((x : Int) != (x : Int)) = false:=by simp
            clear hbr hy hx hc3 hcc
            go_wp2_with fail
            go_quiet (fail)
            go_wp2_with fail
            go_roundw
            case rel => exact ⟨k + 1,by go_num,hlt3,bdN HBR.out _⟩
            case measure => simp [intOf]; omega
           ·obtain ⟨j,hkj⟩ : ∃ j,k = nA + j:=⟨k - nA,by omega⟩
            obtain ⟨g2,rfl,hcc⟩:=nodes_cells HRW.out.2.1 HY.out.2.1 (by omega)
            obtain ⟨x,hx⟩ : ∃ x,ys2[j]? = some x:=⟨_,List.getElem?_eq_getElem (by rw [HY.out.2.1]; omega)⟩
            have d1:=hcc j x hx
            replace d1:=(hbr.cell (p:=⟨g2,j,none⟩) (lt_of_cell d1)).trans d1
            have exy:=(HS.out _ y hy).2 x (by rw [HY.out.1]; omega) (by rw [HY.out.1,hkj,Nat.add_sub_cancel_left]; exact hx)
            subst exy
            have z3 : decide ((k : Int) < nA) = false:=decide_eq_false (by omega)
            have z4 : decide (k < nA) = false:=decide_eq_false (by omega)
            have z5 : decide (nA ≤ k) = true:=decide_eq_true (by omega)
            have z6 : IntKind.i64.wrap ((k : Int) - nA) = j:=by
             rw [show ((k : Int) - nA) = j by omega]
             exact IntWalk.i64_in _ (by omega)
            have z7 : (0 : Int) ≤ j:=by omega
            have z8 : (j : Int) < nB:=by omega
            have HKJ:=Lib.hid hkj
            clear hbr hy hx hc3 hcc hkj
            go_wp2_with fail
            go_quiet (fail)
            clear z3 z4 z5 z6 z7 z8
            go_wp2_with fail
            go_roundw
            case rel => exact ⟨k + 1,by go_num,hlt3,bdN HBR.out _⟩
            case measure => simp [intOf]; omega
          ·obtain rfl : k = nA + nB:=by omega
           have HBR:=Lib.hid hbr
           clear hbr
           go_wp2_with fail
           go_ret
           exact ⟨rfl,Below.then HBW.out HBR.out⟩
end
end Go.Proofs.YthekfpgegiffoaaGreatDoor
