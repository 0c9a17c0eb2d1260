/- What is proved: what the document's own One tells of a text. (and what stands with it) -/
import Derived.Test.YthekfpgegiffoaaGreatDoorQy
import Derived.Test.YthekfpgegiffoaaGreatDoorQc
import Derived.Test.YthekfpgegiffoaaGreatDoorQs
import Derived.Test.YthekfpgegiffoaaGreatDoorQl
import Derived.Test.YthekfpgegiffoaaGreatDoorQw
set_option linter.unusedSimpArgs false
set_option linter.unusedVariables false
set_option maxHeartbeats 16000000
set_option maxRecDepth 100000
namespace Go.Proofs.YthekfpgegiffoaaGreatDoor
section
open Go.RowKit Go.Shelf
open Lx (T)
theorem rone_any (s : ByteArray) (hs : s.size ≤ 1000000000) (w : World) : Calls Tryz.prog 47 #[.string s] w (OnePost w (oneOf s.data.toList)):=by
 have hB0 : Below w.heap.size w (w.alloc (.cells #[.int .i64 0, .string ⟨#[]⟩, .int .i64 0, .int .i64 0, .int .i64 0, .bool false] 63)):=(Below.refl _ w).alloc (Nat.le_refl _) _
 have HB0:=Lib.hid hB0
 obtain ⟨ts,hts⟩ : ∃ ts,ts = Lx.tk false (Sp.left 0 s.data.toList):=⟨_,rfl⟩
 obtain ⟨o,ho⟩ : ∃ o,o = oneOf s.data.toList:=⟨_,rfl⟩
 rw [← ho]
 unfold oneOf at ho
 rw [← hts] at ho
 have HT:=Lib.hid hts
 have HO:=Lib.hid ho
 clear hB0 hts ho
 go_enter Tryz.func47,Tryz.ntmps47
 go_wp2_with fail
 refine (rtokens_any 0 s hs _).mono ?_
 rintro e w1 ⟨v,rfl,hv,hB1⟩
 rw [← HT.out] at hv
 obtain ⟨ad,cap,rfl, -⟩:=id hv
 have hbk : w1.heap[w.heap.size]? = some (.cells #[.int .i64 0, .string ⟨#[]⟩, .int .i64 0, .int .i64 0, .int .i64 0, .bool false] 63 (0,0)):=(hB1.block _ (by simp)).trans (heap_alloc_new w _)
 have hB : Below w.heap.size w w1:=HB0.out.trans (hB1.mono HB0.out.size)
 have c0 : w1.cell? ⟨w.heap.size,0,none⟩ = some (.int .i64 0):=by rw [Lib.cell_of_heap hbk]; rfl
 have c1 : w1.cell? ⟨w.heap.size,1,none⟩ = some (.string ⟨#[]⟩):=by rw [Lib.cell_of_heap hbk]; rfl
 have c2 : w1.cell? ⟨w.heap.size,2,none⟩ = some (.int .i64 0):=by rw [Lib.cell_of_heap hbk]; rfl
 have c3 : w1.cell? ⟨w.heap.size,3,none⟩ = some (.int .i64 0):=by rw [Lib.cell_of_heap hbk]; rfl
 have c4 : w1.cell? ⟨w.heap.size,4,none⟩ = some (.int .i64 0):=by rw [Lib.cell_of_heap hbk]; rfl
 have c5 : w1.cell? ⟨w.heap.size,5,none⟩ = some (.bool false):=by rw [Lib.cell_of_heap hbk]; rfl
 have f0 : w1.frozen? ⟨w.heap.size,0,none⟩ = false:=Lib.frozen_of_heap hbk 0
 have f1 : w1.frozen? ⟨w.heap.size,1,none⟩ = false:=Lib.frozen_of_heap hbk 1
 have f2 : w1.frozen? ⟨w.heap.size,2,none⟩ = false:=Lib.frozen_of_heap hbk 2
 have f3 : w1.frozen? ⟨w.heap.size,3,none⟩ = false:=Lib.frozen_of_heap hbk 3
 have f4 : w1.frozen? ⟨w.heap.size,4,none⟩ = false:=Lib.frozen_of_heap hbk 4
 have f5 : w1.frozen? ⟨w.heap.size,5,none⟩ = false:=Lib.frozen_of_heap hbk 5
 clear hbk hB1
 by_cases h1 : ts.length = 1
 ·obtain ⟨x,rfl⟩ : ∃ x,ts = [x]:=List.length_eq_one_iff.1 h1
  obtain ⟨g,o',rfl, -,hcap,hmax,hg,hc⟩:=hv.cells (by simp)
  have hcap1 : 1 ≤ cap:=hcap
  unfold maxLen at hmax
  obtain ⟨d0,d1,d2,d3,d4,d5⟩:=hc 0 x rfl
  simp only [Nat.zero_mul,Nat.add_zero] at d0 d1 d2 d3 d4 d5
  obtain ⟨tx,htx⟩ : ∃ tx : ByteArray,tx = ⟨x.text.toArray⟩:=⟨_,rfl⟩
  have htl : tx.data.toList = x.text:=by rw [htx]
  rw [← htx] at d1
  have HTX:=Lib.hid htx
  have hfull:=Lx.one_full s.data.toList x HT.out.symm
  rw [size_list] at hfull
  have ho:=HO.out
  rw [size_list] at ho
  by_cases hk : x.kind = 7
  ·have t1 : ((x.kind : Int) == 7) = true:=by rw [hk]; rfl
   have hn : o = none:=by rw [ho]; simp [hk]
   subst hn
   clear hc hv htl hfull ho hk h1 htx
   go_wp2_with fail
   exact bodyPost_ret (v:=.tuple #[tokAgg 0 zeroTok, .bool false]) (by simp [results,Tryz.results47,go_sem,tokAgg,zeroTok,c0,c1,c2,c3,c4,c5]) rfl ⟨rfl,(((((hB.setCell (p:=⟨w.heap.size,0,none⟩) (Nat.le_refl _) _).setCell (p:=⟨w.heap.size,1,none⟩) (Nat.le_refl _) _).setCell (p:=⟨w.heap.size,2,none⟩) (Nat.le_refl _) _).setCell (p:=⟨w.heap.size,3,none⟩) (Nat.le_refl _) _).setCell (p:=⟨w.heap.size,4,none⟩) (Nat.le_refl _) _).setCell (p:=⟨w.heap.size,5,none⟩) (Nat.le_refl _) _⟩
  ·have t1 : ((x.kind : Int) == 7) = false:=by rw [beq_eq_false_iff_ne]; omega
   have hts : tx.size = x.text.length:=by rw [htx,mk_size]
   by_cases hlen : x.text.length = s.size
   ·obtain ⟨-,e2,e3,e4⟩:=hfull hlen
    have hn : o = some x:=by rw [ho]; simp [hk,hlen]
    subst hn
    have q1 : ((x.fr : Int) != 0) = false:=by rw [e3]; rfl
    have q2 : ((x.to : Int) != (s.size : Int)) = false:=by rw [e4]; simp
    have q3 : ((tx.size : Int) != (s.size : Int)) = false:=by rw [hts,hlen]; simp
    have d5':=d5
    rw [e2] at d5'
    have HE2:=Lib.hid e2
    clear hc hv htl hfull ho hk h1 htx hlen hts e2 e3 e4 d5
    go_wp2_with fail
    exact bodyPost_ret (v:=.tuple #[tokAgg 0 x, .bool true]) (by simp [results,Tryz.results47,go_sem,tokAgg,HTX.out,HE2.out,c0,c1,c2,c3,c4,c5]) rfl ⟨rfl,(((((hB.setCell (p:=⟨w.heap.size,0,none⟩) (Nat.le_refl _) _).setCell (p:=⟨w.heap.size,1,none⟩) (Nat.le_refl _) _).setCell (p:=⟨w.heap.size,2,none⟩) (Nat.le_refl _) _).setCell (p:=⟨w.heap.size,3,none⟩) (Nat.le_refl _) _).setCell (p:=⟨w.heap.size,4,none⟩) (Nat.le_refl _) _).setCell (p:=⟨w.heap.size,5,none⟩) (Nat.le_refl _) _⟩
   ·have hn : o = none:=by rw [ho]; simp [hlen]
    subst hn
    have q3 : ((tx.size : Int) != (s.size : Int)) = true:=by rw [bne_iff_ne,hts]; omega
    have hb : x.bl = true ∨ (x.bl = false ∧ ((x.fr : Int) != 0) = true) ∨ (x.bl = false ∧ ((x.fr : Int) != 0) = false ∧ ((x.to : Int) != (s.size : Int)) = true) ∨ (x.bl = false ∧ ((x.fr : Int) != 0) = false ∧ ((x.to : Int) != (s.size : Int)) = false):=by
     cases x.bl <;> cases ((x.fr : Int) != 0) <;> cases ((x.to : Int) != (s.size : Int)) <;> simp
    clear hc hv htl hfull ho hk h1 htx hlen hts
    rcases hb with q0 | ⟨q0,q1⟩ | ⟨q0,q1,q2⟩ | ⟨q0,q1,q2⟩
    all_goals
     rw [q0] at d5
     clear q0
     go_wp2_with fail
     exact bodyPost_ret (v:=.tuple #[tokAgg 0 zeroTok, .bool false]) (by simp [results,Tryz.results47,go_sem,tokAgg,zeroTok,c0,c1,c2,c3,c4,c5]) rfl ⟨rfl,(((((hB.setCell (p:=⟨w.heap.size,0,none⟩) (Nat.le_refl _) _).setCell (p:=⟨w.heap.size,1,none⟩) (Nat.le_refl _) _).setCell (p:=⟨w.heap.size,2,none⟩) (Nat.le_refl _) _).setCell (p:=⟨w.heap.size,3,none⟩) (Nat.le_refl _) _).setCell (p:=⟨w.heap.size,4,none⟩) (Nat.le_refl _) _).setCell (p:=⟨w.heap.size,5,none⟩) (Nat.le_refl _) _⟩
 ·have t1 : ((ts.length : Int) != 1) = true:=by simp [bne]; omega
  have t2 : ((ts.length : Int) == 1) = false:=by rw [beq_eq_false_iff_ne]; omega
  have hn : o = none:=by
   rw [HO.out]
   match ts,h1 with
   | [],_ => rfl
   | [x],h => simp at h
   | x :: y :: r,_ => rfl
  subst hn
  clear h1 hv
  go_wp2_with fail
  exact bodyPost_ret (v:=.tuple #[tokAgg 0 zeroTok, .bool false]) (by simp [results,Tryz.results47,go_sem,tokAgg,zeroTok,c0,c1,c2,c3,c4,c5]) rfl ⟨rfl,(((((hB.setCell (p:=⟨w.heap.size,0,none⟩) (Nat.le_refl _) _).setCell (p:=⟨w.heap.size,1,none⟩) (Nat.le_refl _) _).setCell (p:=⟨w.heap.size,2,none⟩) (Nat.le_refl _) _).setCell (p:=⟨w.heap.size,3,none⟩) (Nat.le_refl _) _).setCell (p:=⟨w.heap.size,4,none⟩) (Nat.le_refl _) _).setCell (p:=⟨w.heap.size,5,none⟩) (Nat.le_refl _) _⟩
end
section
open Go.RowKit Go.Shelf
theorem r10Name_any (x : ByteArray) (hs : x.size ≤ 1000000) (w : World) : Calls Tryz.prog 23 #[.string x] w fun e w' => ∃ b,e = .returned (.bool b) ∧ (b = true → (∃ t,oneOf x.data.toList = some t ∧ t.kind = 1) ∧ x ≠ Ie.DEF ∧ x ≠ Mx.VA) ∧ Below w.heap.size w w':=by
 have KO:=Lib.hid (rone_any x (by omega) w)
 clear hs
 go_enter Tryz.func23,Tryz.ntmps23
 go_wp2_with fail
 refine KO.out.mono ?_
 rintro e w1 ⟨rfl,hb⟩
 have HB:=Lib.hid hb
 clear hb
 cases ho : oneOf x.data.toList with
 | none =>
  dsimp only [Option.getD,Option.isSome,tokAgg,zeroTok]
  have HB2:=Lib.hid (HB.out.alloc HB.out.size (.cells #[.int .i64 0, .string ⟨#[]⟩, .int .i64 0, .int .i64 0, .int .i64 0, .bool false] 63))
  go_wp2_with fail
  go_ret
  exact ⟨false,rfl,(fun h => by cases h),HB2.out⟩
 | some t =>
  dsimp only [Option.getD,Option.isSome,tokAgg]
  have HB2:=Lib.hid (fun k : Int => HB.out.alloc HB.out.size (.cells #[.int .i64 k, .string ⟨t.text.toArray⟩, .int .i64 0, .int .i64 t.fr, .int .i64 t.to, .bool t.bl] 63))
  by_cases hk : t.kind = 1
  ·have e1 : ((t.kind : Int) == 1) = true:=by rw [hk]; rfl
   by_cases h1 : x = Ie.DEF
   ·have e2 : (x.toList == [100,101,102,105,110,101,100]) = true:=by rw [h1]; exact lit_yes rfl
    clear h1
    go_wp2_with fail
    go_ret
    exact ⟨false,rfl,(fun h => by cases h),HB2.out _⟩
   ·have e2 : (x.toList == [100,101,102,105,110,101,100]) = false:=lit_no h1
    by_cases h2 : x = Mx.VA
    ·have e3 : (x.toList == [95,95,86,65,95,65,82,71,83,95,95]) = true:=by rw [h2]; exact lit_yes rfl
     clear h1 h2
     go_wp2_with fail
     go_ret
     exact ⟨false,rfl,(fun h => by cases h),HB2.out _⟩
    ·have e3 : (x.toList == [95,95,86,65,95,65,82,71,83,95,95]) = false:=lit_no h2
     have HX:=Lib.hid (And.intro h1 h2)
     have HO:=Lib.hid ho
     clear h1 h2
     go_wp2_with fail
     go_ret
     exact ⟨true,rfl,(fun _ => ⟨⟨t,HO.out,hk⟩,HX.out⟩),HB2.out _⟩
  ·have e1 : ((t.kind : Int) == 1) = false:=by simp; omega
   go_wp2_with fail
   go_ret
   exact ⟨false,rfl,(fun h => by cases h),HB2.out _⟩
theorem bdN {B : Nat} {w W : World} (h : Below B w W) (k : Nat) : Below B w (W.drewN k):=⟨h.os,h.tape,h.output,h.size,h.block⟩
structure Good (ns : List ByteArray) : Prop where
 len : ns.length ≤ 5
 nd : ns.Nodup
 sz : ∀ x ∈ ns,x.size ≤ 50
 nm : ∀ x ∈ ns,Nm x
theorem Good.nml {ns : List ByteArray} (h : Good ns) : NmL ns:=⟨by have:=h.len; omega,h.nd,h.nm⟩
def GoodUpto (ns : List ByteArray) (k : Nat) : Prop:=(ns.take k).Nodup ∧ ∀ x ∈ ns.take k,x.size ≤ 50 ∧ Nm x
theorem GoodUpto.step {ns : List ByteArray} {k : Nat} {x : ByteArray} (h : GoodUpto ns k) (hx : ns[k]? = some x) (h1 : x.size ≤ 50) (h2 : Nm x) (h4 : ∀ j,j < k → ns[j]? ≠ some x) : GoodUpto ns (k + 1):=by
 obtain ⟨hk,e⟩:=List.getElem?_eq_some_iff.1 hx
 have ht : ns.take (k + 1) = ns.take k ++ [x]:=by rw [List.take_succ_eq_append_getElem hk,e]
 unfold GoodUpto
 rw [ht]
 refine ⟨?_,fun y hy => ?_⟩
 ·rw [List.nodup_append]
  refine ⟨h.1,by simp,fun a ha b hb e0 => ?_⟩
  obtain rfl:=List.mem_singleton.1 hb
  obtain ⟨j,hj,e⟩:=List.getElem_of_mem ha
  rw [List.length_take] at hj
  refine h4 j (by omega) ?_
  rw [List.getElem_take] at e
  rw [List.getElem?_eq_getElem (by omega),e,e0]
 ·rcases List.mem_append.1 hy with hy | hy
  ·exact h.2 y hy
  ·obtain rfl:=List.mem_singleton.1 hy
   exact ⟨h1,h2⟩
theorem right_any (nv : Value) (ns : List ByteArray) (w : World) (hn : Sts w nv ns) : Calls Tryz.prog 9 #[nv] w fun e w' => ∃ b,e = .returned (.bool b) ∧ (b = true → Good ns) ∧ Below w.heap.size w w':=by
 obtain ⟨nad,nc,rfl,nc1,nc2, -⟩:=id hn
 obtain ⟨N,hN⟩ : ∃ N,N = ns.length:=⟨_,rfl⟩
 rw [← hN] at hn nc1 ⊢
 have HN:=Lib.hid hN
 have HS:=Lib.hid hn
 unfold maxLen at nc2
 clear hn hN
 go_enter Tryz.func9,Tryz.ntmps9
 by_cases h5 : 5 < N
 ·have e1 : (5 : Int) < N:=by omega
  go_wp2_with fail
  go_ret
  exact ⟨false,rfl,(fun h => by cases h),Below.refl _ _⟩
 ·have e1 : ¬ (5 : Int) < N:=by omega
  go_wp2_with fail
  go_loopw [3,4,5] (fun a _ _ wr => ∃ k : Nat,a = .int .i64 k ∧ k ≤ N ∧ GoodUpto ns k ∧ Below w.heap.size w wr) (fun a _ _ _ => N - (intOf a).toNat)
  case atStart => exact ⟨0,rfl,Nat.zero_le _,⟨List.nodup_nil,fun x hx => by cases hx⟩,Below.refl _ _⟩
  case round =>
   obtain ⟨k,rfl,hk,hg,hb⟩:=hrel
   have HG:=Lib.hid hg
   have HB:=Lib.hid hb
   clear hg hb
   by_cases hlt : k < N
   ·obtain ⟨x,hx⟩ : ∃ x,ns[k]? = some x:=⟨_,List.getElem?_eq_getElem (by rw [← HN.out]; exact hlt)⟩
    have hs2:=HS.out.below HB.out
    rw [show N = ns.length from HN.out] at hs2
    obtain ⟨g,o,rfl, -, -, -, -,hc⟩:=hs2.cells (by rw [← HN.out]; omega)
    have d0:=hc k x hx
    have HC:=Lib.hid hc
    have HX:=Lib.hid hx
    have z1 : (0 : Int) ≤ k:=by omega
    have z2 : (k : Int) < N:=by omega
    clear hc hs2 hx
    by_cases hsz : x.size ≤ 50
    ·have e2 : (x.size : Int) ≤ 50:=by omega
     have KN:=Lib.hid (r10Name_any x (by omega) wr)
     go_wp2_with fail
     refine KN.out.mono ?_
     rintro e w2 ⟨b,rfl,hb,hB2⟩
     have HB2:=Lib.hid (Below.then HB.out hB2)
     have HC2:=Lib.hid (fun (i : Nat) (y : ByteArray) (hy : ns[i]? = some y) => (hB2.cell (p:=⟨g,o + i,none⟩) (lt_of_cell (HC.out i y hy))).trans (HC.out i y hy))
     have HNm:=Lib.hid hb
     clear hb hB2
     cases b with
     | false =>
      go_wp2_with fail
      go_ret
      exact ⟨false,rfl,(fun h => by cases h),HB2.out⟩
     | true =>
      go_wp2_with fail
      go_loopw [5] (fun a wr => ∃ j : Nat,a = .int .i64 j ∧ j ≤ k ∧ (∀ i,i < j → ns[i]? ≠ some x) ∧ Below w2.heap.size w2 wr) (fun a _ => k - (intOf a).toNat)
      case atStart => exact ⟨0,rfl,Nat.zero_le _,fun i hi => by omega,Below.refl _ _⟩
      case round =>
       obtain ⟨j,rfl,hj,hne,hb3⟩:=hrel
       have HB3:=Lib.hid hb3
       have HNE:=Lib.hid hne
       by_cases hjk : j < k
       ·obtain ⟨y,hy⟩ : ∃ y,ns[j]? = some y:=⟨_,List.getElem?_eq_getElem (by rw [← HN.out]; omega)⟩
        have dj:=(hb3.cell (p:=⟨g,o + j,none⟩) (lt_of_cell (HC2.out j y hy))).trans (HC2.out j y hy)
        have dk:=(hb3.cell (p:=⟨g,o + k,none⟩) (lt_of_cell (HC2.out k x HX.out))).trans (HC2.out k x HX.out)
        have y1 : (0 : Int) ≤ j:=by omega
        have y2 : (j : Int) < N:=by omega
        have HY:=Lib.hid hy
        clear hb3 hne hy
        by_cases hxy : y = x
        ·have e3 : (y.toList == x.toList) = true:=by rw [hxy]; exact beq_self_eq_true _
         go_wp2_with fail
         go_quiet (fail)
         go_wp2_with fail
         go_ret
         exact ⟨false,rfl,(fun h => by cases h),Below.then HB2.out (bdN HB3.out _)⟩
        ·have e3 : (y.toList == x.toList) = false:=lit_ne hxy
         have HXY:=Lib.hid hxy
         clear hxy
         go_wp2_with fail
         go_quiet (fail)
         go_wp2_with fail
         go_roundw
         case rel => exact ⟨j + 1,by go_num,hjk,fun i hi => by
          rcases Nat.lt_or_ge i j with h | h
          ·exact HNE.out i h
          ·obtain rfl : i = j:=by omega
           rw [HY.out]
           exact fun e => HXY.out (Option.some.inj e),(bdN HB3.out _)⟩
         case measure => simp [intOf]; omega
       ·obtain rfl : j = k:=by omega
        have HG2:=Lib.hid (HG.out.step HX.out hsz ((HNm.out trivial).elim fun h1 h2 => ⟨h1,h2.1,h2.2,by omega⟩) HNE.out)
        clear hb3 hne
        go_wp2_with fail
        go_roundw
        case rel => exact ⟨j + 1,by go_num,hlt,HG2.out,Below.then HB2.out HB3.out⟩
        case measure => simp [intOf]; omega
    ·have e2 : ¬ (x.size : Int) ≤ 50:=by omega
     go_wp2_with fail
     go_ret
     first
      | exact ⟨false,rfl,(fun h => by cases h),HB.out⟩
      | exact .inl ⟨rfl,HB.out⟩
   ·obtain rfl : k = N:=by omega
    go_wp2_with fail
    go_ret
    refine ⟨true,rfl,fun _ => ?_,HB.out⟩
    have h:=HG.out
    unfold GoodUpto at h
    rw [HN.out,List.take_length] at h
    exact ⟨by rw [← HN.out]; omega,h.1,fun x hx => (h.2 x hx).1,fun x hx => (h.2 x hx).2⟩
end
section
open Go.RowKit Go.Shelf
def nsAB : List ByteArray:=[⟨#[65]⟩,⟨#[66]⟩]
def addS (acc : ByteArray) (l : List Nat) : ByteArray:=l.foldl (fun a x => a ++ ⟨#[UInt8.ofNat (48 + x)]⟩) acc
def showN (N : Pm.Nn) : Nat → ByteArray
 | 0 => ⟨#[]⟩
 | i + 1 => addS (showN N i) (setsOf (N i) 4) ++ ⟨#[59]⟩
def tx1 : ByteArray:=⟨#[120,10,35,105,102,32,65,32,38,38,32,33,100,101,102,105,110,101,100,32,66,10,121,10,35,101,108,115,101,10,122,10,35,101,110,100,105,102]⟩
def tx2 : ByteArray:=⟨#[35,105,102,100,101,102,32,65,10,35,105,102,100,101,102,32,66,10,120,10,35,101,110,100,105,102,10,35,101,110,100,105,102]⟩
def tx3 : ByteArray:=⟨#[35,105,102,32,67,10,35,101,110,100,105,102]⟩
def tx4 : ByteArray:=⟨#[35,105,102,32,48,10,35,105,102,32,67,10,35,101,110,100,105,102,10,35,101,110,100,105,102]⟩
def exV (s : ByteArray) : Option ByteArray × Nat × Nat:=match Pm.lines nsAB (linesOf s) with
 | .ok N => (some (showN N (linesOf s).length),0,(linesOf s).length)
 | .error x => (none,x.1,(linesOf s).length)
set_option maxRecDepth 100000
theorem ex3 : exV tx3 = (none,0,2):=by kernel_rfl
theorem ex2 : exV tx2 = (some ⟨#[48,49,50,51,59,49,51,59,51,59,49,51,59,48,49,50,51,59]⟩,0,5):=by kernel_rfl
theorem ex1 : exV tx1 = (some ⟨#[48,49,50,51,59,48,49,50,51,59,49,59,48,49,50,51,59,48,50,51,59,48,49,50,51,59]⟩,0,6):=by kernel_rfl
theorem ex4 : exV tx4 = (some ⟨#[48,49,50,51,59,59,59,48,49,50,51,59]⟩,0,4):=by kernel_rfl
theorem nm_A : NmL nsAB:=by
 refine ⟨by decide,by decide,fun x hx => ?_⟩
 simp only [nsAB,List.mem_cons,List.not_mem_nil,or_false] at hx
 rcases hx with rfl | rfl
 ·exact ⟨⟨⟨1,[65],0,1,false⟩,by kernel_rfl,rfl⟩,by decide,by decide,by decide⟩
 ·exact ⟨⟨⟨1,[66],0,1,false⟩,by kernel_rfl,rfl⟩,by decide,by decide,by decide⟩
theorem addS_size : ∀ (l : List Nat) (acc : ByteArray),(addS acc l).size = acc.size + l.length
 | [],acc => rfl
 | x :: l,acc => by
  show (addS (acc ++ ⟨#[UInt8.ofNat (48 + x)]⟩) l).size = _
  rw [addS_size l,ByteArray.size_append]
  show acc.size + 1 + l.length = acc.size + (l.length + 1)
  omega
theorem addS_snoc (acc : ByteArray) (l : List Nat) (x : Nat) : addS acc (l ++ [x]) = addS acc l ++ ⟨#[UInt8.ofNat (48 + x)]⟩:=by
 unfold addS
 rw [List.foldl_append]
 rfl
theorem showN_size (N : Pm.Nn) : ∀ i,(showN N i).size ≤ 5 * i
 | 0 => Nat.le_refl _
 | i + 1 => by
  show (addS (showN N i) (setsOf (N i) 4) ++ ⟨#[59]⟩).size ≤ _
  rw [ByteArray.size_append,addS_size]
  have h1:=showN_size N i
  have h2:=setsOf_len (N i) 4
  show _ + 1 ≤ _
  omega
theorem shows_any (nv : Value) (s : ByteArray) (hs : s.size ≤ 1000) (w : World) (hn : Sts w nv nsAB) (hG : Gv w) (h0 : (exV s).2.1 = 0) :
  Calls Tryz.prog 22 #[nv, .string s] w fun e w' => e = .returned (.string ((exV s).1.getD ⟨#[33,48]⟩)) ∧ Below w.heap.size w w':=by
 obtain ⟨nad,nc,rfl,nc1,nc2, -⟩:=id hn
 have KN:=Lib.hid (Bdd.new_yes 2 (by omega) w)
 obtain ⟨hl1,hl2⟩:=linesOf_small s hs
 unfold exV at h0 ⊢
 obtain ⟨L,hL⟩ : ∃ L,L = linesOf s:=⟨_,rfl⟩
 rw [← hL] at hl1 hl2 h0 ⊢
 obtain ⟨R,hR⟩ : ∃ R,R = Pm.lines nsAB L:=⟨_,rfl⟩
 rw [← hR] at h0 ⊢
 have KL:=Lib.hid (fun W (hG : Gv W) => l12lines_any s (by omega) W hG)
 rw [← hL] at KL
 have HN:=Lib.hid hn
 have HG:=Lib.hid hG
 have HR:=Lib.hid hR
 have H0:=Lib.hid h0
 have HL:=Lib.hid (And.intro hl1 hl2)
 have HS:=Lib.hid hs
 change Calls Tryz.prog _ #[.slice nad 2 nc,_] _ _
 change Hid (Sts w (.slice nad 2 nc) nsAB) at HN
 unfold maxLen at nc2
 replace nc1 : 2 ≤ nc:=nc1
 clear hn hG hR h0 hl1 hl2 hs hL
 go_enter Tryz.func22,Tryz.ntmps22
 go_wp2_with fail
 refine KN.out.mono ?_
 rintro e w1 ⟨rfl,hA1,hb1⟩
 have HA1:=Lib.hid hA1
 have HB1:=Lib.hid hb1
 have KL1:=Lib.hid (KL.out w1 (HG.out.later hb1))
 clear hA1 hb1 KN KL
 go_wp2_with fail
 refine KL1.out.mono ?_
 rintro e w2 ⟨u,rfl,hu,hb2⟩
 obtain ⟨hl1,hl2⟩:=HL.out
 have hss:=HS.out
 have KP:=Lib.hid (plines_any w.heap.size (w.heap.size + 1) w.heap.size 2 (.slice none 0 0) [] (.slice nad 2 nc) u nsAB L w2 (HA1.out.below hb2) (HN.out.below (Below.then HB1.out hb2)) hu (HG.out.later (Below.then HB1.out hb2)) nm_A rfl hl2 (by omega) (by show (510 * 2 ^ 2 + 1540) * L.length ≤ _; omega) (by show 0 + 510 * 2 ^ 2 * L.length ≤ _; omega))
 rw [← HR.out] at KP
 have HB2:=Lib.hid (Below.then HB1.out hb2)
 have HS1:=Lib.hid hb2.size
 have HB12:=Lib.hid hb2
 have HLen:=Lib.hid (show L.length ≤ 1000 by omega)
 clear hl1 hl2 KL1 hu hb2 hss
 go_wp2_with fail
 refine KP.out.mono ?_
 intro e w3 hp
 cases R with
 | error y =>
  obtain ⟨rfl,h2,h3⟩:=hp
  have h4 : y.1 = 0:=H0.out
  rw [h4]
  have e1 : (y.2 == 0) = false:=by simpa using h2
  have HF:=Lib.hid (Below.then HB2.out h3)
  clear h2 h3 h4 KP HR H0
  go_wp2_with fail
  go_ret
  exact ⟨rfl,HF.out⟩
 | ok N =>
  obtain ⟨o,ds',sv',ys,rfl,hA3,hk3,hF3,hrow,hyl,hsay, -⟩:=hp
  have hb3 : Below w.heap.size w w3:=Bdd.below_of_fr HB2.out (Nat.le_refl _) hF3 (Nat.le_succ _) (Nat.le_refl _) (fun k e => by cases e)
  have HB3:=Lib.hid hb3
  have HA3:=Lib.hid hA3
  have HRow:=Lib.hid hrow
  have HSay:=Lib.hid hsay
  obtain ⟨M,hM⟩ : ∃ M,M = L.length:=⟨_,rfl⟩
  have hlen:=HLen.out
  rw [← hM] at hrow hyl hlen HRow
  have HM:=Lib.hid hM
  obtain ⟨oad,ocap,rfl,hoc1,hoc2⟩ : ∃ ad cap,o = .slice ad M cap ∧ M ≤ cap ∧ cap ≤ maxLen:=by
   rcases hrow.2 with ⟨h,h0⟩ | ⟨g,cap,cur,h,h1,h2,h3,h4, -⟩
   ·exact ⟨none,0,by rw [h,h0],by omega,Nat.zero_le _⟩
   ·exact ⟨_,cap,h,h3,h4⟩
  have HYL:=Lib.hid hyl
  unfold maxLen at hoc2
  clear hA3 hk3 hF3 hrow hyl hsay hb3 KP HR H0 hM
  go_wp2_with fail
  go_loopw [10,11,12,13] (fun t a _ _ wr => ∃ i : Nat,a = .int .i64 i ∧ i ≤ M ∧ t = .string (showN N i) ∧ Below w3.heap.size w3 wr) (fun _ a _ _ _ => M - (intOf a).toNat)
  case atStart => exact ⟨0,rfl,Nat.zero_le _,rfl,Below.refl _ _⟩
  case round =>
   obtain ⟨i,rfl,hi,rfl,hb⟩:=hrel
   have HB:=Lib.hid hb
   by_cases hlt : i < M
   ·obtain ⟨y,hy⟩ : ∃ y,ys[i]? = some y:=⟨_,List.getElem?_eq_getElem (by rw [HYL.out]; exact hlt)⟩
    obtain ⟨g,rfl⟩ : ∃ g,oad = some ⟨g,0,none⟩:=by
     rcases HRow.out.2 with ⟨h,h0⟩ | ⟨g,cap,cur,h, -⟩
     ·omega
     ·injection h with h _ _; exact ⟨g,h⟩
    have d0 : w3.cell? ⟨g,i,none⟩ = some (.int .i64 (y : Int)):=by
     have:=HRow.out.cells (g:=g) rfl i (.int .i64 (y : Int)) (by simp [nodeL,hy])
     rwa [Cnd.add_none,Nat.zero_add] at this
    have d1:=(hb.cell (p:=⟨g,i,none⟩) (lt_of_cell d0)).trans d0
    have KW:=Lib.hid (where_any w.heap.size (w.heap.size + 1) w.heap.size 2 y sv' ds' (N i) wr (HA3.out.below hb) (HSay.out i y hy))
    have z1 : (0 : Int) ≤ i:=by omega
    have z2 : (i : Int) < M:=by omega
    clear hb d0 hy
    go_wp2_with fail
    refine KW.out.mono ?_
    rintro e w5 ⟨o5,rfl,hrow5,hb5⟩
    have HB5:=Lib.hid (Below.then HB.out hb5)
    have HRow5:=Lib.hid hrow5
    have hsl:=setsOf_len (N i) (2 ^ 2)
    obtain ⟨l,hl⟩ : ∃ l,l = setsOf (N i) 4:=⟨_,rfl⟩
    have hl4 : ∀ x ∈ l,x < 4:=fun x hx => by
     rw [hl] at hx
     exact List.mem_range.1 (List.mem_filter.1 hx).1
    rw [show (2 : Nat) ^ 2 = 4 from rfl,← hl] at hrow5 hsl HRow5
    obtain ⟨n,hn⟩ : ∃ n,n = l.length:=⟨_,rfl⟩
    rw [← hn] at hrow5 hsl HRow5
    obtain ⟨oad5,ocap5,rfl,hoc3,hoc4⟩ : ∃ ad cap,o5 = .slice ad n cap ∧ n ≤ cap ∧ cap ≤ maxLen:=by
     rcases hrow5.2 with ⟨h,h0⟩ | ⟨g,cap,cur,h,h1,h2,h3,h4, -⟩
     ·exact ⟨none,0,by rw [h,h0],by omega,Nat.zero_le _⟩
     ·exact ⟨_,cap,h,h3,h4⟩
    unfold maxLen at hoc4
    have HLs:=Lib.hid (And.intro hl (And.intro hl4 hn))
    have hsz1:=showN_size N i
    obtain ⟨S0,hS0⟩ : ∃ S0,S0 = showN N i:=⟨_,rfl⟩
    rw [← hS0] at hsz1 ⊢
    have HS0:=Lib.hid hS0
    clear hrow5 hb5 hl hl4 hn KW hS0
    go_wp2_with fail
    go_loopw [10,13] (fun t a wr => ∃ k : Nat,a = .int .i64 k ∧ k ≤ n ∧ t = .string (addS S0 (l.take k)) ∧ Below w5.heap.size w5 wr) (fun _ a _ => n - (intOf a).toNat)
    case atStart => exact ⟨0,rfl,Nat.zero_le _,rfl,Below.refl _ _⟩
    case round =>
     obtain ⟨k,rfl,hk,rfl,hb⟩:=hrel
     have HB6:=Lib.hid hb
     have hsz2:=addS_size (l.take k) S0
     rw [List.length_take] at hsz2
     by_cases hlt2 : k < n
     ·obtain ⟨x,hx⟩ : ∃ x,l[k]? = some x:=⟨_,List.getElem?_eq_getElem (by rw [← HLs.out.2.2]; exact hlt2)⟩
      have hx4:=HLs.out.2.1 x (List.mem_of_getElem? hx)
      have htk : l.take (k + 1) = l.take k ++ [x]:=by
       obtain ⟨h1,h2⟩:=List.getElem?_eq_some_iff.1 hx
       rw [List.take_succ_eq_append_getElem h1,h2]
      have HTk:=Lib.hid (show addS S0 (l.take (k + 1)) = addS S0 (l.take k) ++ ⟨#[UInt8.ofNat (48 + x)]⟩ by rw [htk,addS_snoc])
      obtain ⟨g5,rfl⟩ : ∃ g,oad5 = some ⟨g,0,none⟩:=by
       rcases HRow5.out.2 with ⟨h,h0⟩ | ⟨g,cap,cur,h, -⟩
       ·omega
       ·injection h with h _ _; exact ⟨g,h⟩
      have d0 : w5.cell? ⟨g5,k,none⟩ = some (.int .i64 (x : Int)):=by
       have:=HRow5.out.cells (g:=g5) rfl k (.int .i64 (x : Int)) (by simp [Cnd.nums,hx])
       rwa [Cnd.add_none,Nat.zero_add] at this
      have d1:=(hb.cell (p:=⟨g5,k,none⟩) (lt_of_cell d0)).trans d0
      have y1 : (0 : Int) ≤ k:=by omega
      have y2 : (k : Int) < n:=by omega
      obtain ⟨S1,hS1⟩ : ∃ S1,S1 = addS S0 (l.take k):=⟨_,rfl⟩
      rw [← hS1] at hsz2 HTk ⊢
      clear hb d0 hx htk hS1
      have u0 : Utf8.encode 48 = ⟨#[48]⟩:=by kernel_rfl
      have u1 : Utf8.encode 49 = ⟨#[49]⟩:=by kernel_rfl
      have u2 : Utf8.encode 50 = ⟨#[50]⟩:=by kernel_rfl
      have u3 : Utf8.encode 51 = ⟨#[51]⟩:=by kernel_rfl
      have t0 : (Utf8.encode 48).size = 1:=by kernel_rfl
      have t1 : (Utf8.encode 49).size = 1:=by kernel_rfl
      have t2 : (Utf8.encode 50).size = 1:=by kernel_rfl
      have t3 : (Utf8.encode 51).size = 1:=by kernel_rfl
      have HU:=Lib.hid (And.intro u0 (And.intro u1 (And.intro u2 u3)))
      clear u0 u1 u2 u3
      rcases (show x = 0 ∨ x = 1 ∨ x = 2 ∨ x = 3 by omega) with rfl | rfl | rfl | rfl
      all_goals
       go_wp2_with fail
       refine ⟨⟨k + 1,by rw [Int.natCast_add]; rfl,hlt2,?_,HB6.out⟩,by show n - ((k : Int) + 1).toNat < n - (k : Int).toNat; omega⟩
       rw [HTk.out]
       first
        | exact congrArg (fun e => Value.string (S1 ++ e)) HU.out.1
        | exact congrArg (fun e => Value.string (S1 ++ e)) HU.out.2.1
        | exact congrArg (fun e => Value.string (S1 ++ e)) HU.out.2.2.1
        | exact congrArg (fun e => Value.string (S1 ++ e)) HU.out.2.2.2
     ·obtain rfl : k = n:=by omega
      clear hb
      go_wp2_with fail
      refine ⟨⟨i + 1,by rw [Int.natCast_add]; rfl,hlt,?_,Below.then HB5.out HB6.out⟩,by show M - ((i : Int) + 1).toNat < M - (i : Int).toNat; omega⟩
      show Value.string _ = Value.string (addS (showN N i) (setsOf (N i) 4) ++ ⟨#[59]⟩)
      rw [← HLs.out.1,← HS0.out,show k = l.length from HLs.out.2.2,List.take_length]
   ·obtain rfl : i = M:=by omega
    clear hb
    go_wp2_with fail
    go_ret
    exact ⟨by rw [HM.out]; rfl,Below.then HB3.out HB.out⟩
end
section
open Go.RowKit Go.Shelf
theorem sts_AB {W : World} {b : Nat} (h : W.heap[b]? = some (.cells #[.string ⟨#[65]⟩, .string ⟨#[66]⟩] 9 (0,0))) : Sts W (.slice (some ⟨b,0,none⟩) 2 2) nsAB:=by
 refine ⟨some ⟨b,0,none⟩,2,rfl,Nat.le_refl _,by decide,fun i s hs => ⟨b,0,rfl,?_⟩⟩
 have hi : i < 2:=(List.getElem?_eq_some_iff.1 hs).1
 rcases (show i = 0 ∨ i = 1 by omega) with rfl | rfl
 ·obtain rfl:=Option.some.inj hs
  exact (Lib.cell_of_heap h 0).trans rfl
 ·obtain rfl:=Option.some.inj hs
  exact (Lib.cell_of_heap h 1).trans rfl
theorem awake_any (w : World) (hG : Gv w) : Calls Tryz.prog 8 #[] w fun e w' => e = .returned (.bool true) ∧ Below w.heap.size w w':=by
 obtain ⟨W,hW⟩ : ∃ W,W = w.alloc (.cells #[.string ⟨#[65]⟩, .string ⟨#[66]⟩] 9):=⟨_,rfl⟩
 have hB : Below w.heap.size w W:=by rw [hW]; exact (Below.refl _ w).alloc (Nat.le_refl _) _
 have hS : Sts W (.slice (some ⟨w.heap.size,0,none⟩) 2 2) nsAB:=sts_AB (by rw [hW]; exact heap_alloc_new w _)
 have KS:=Lib.hid (fun (s : ByteArray) (hs : s.size ≤ 1000) (h0 : (exV s).2.1 = 0) (V : World) (hb : Below W.heap.size W V) => shows_any _ s hs V (hS.below hb) (hG.later (Below.then hB hb)) h0)
 have HW:=Lib.hid hW
 have HB:=Lib.hid hB
 clear hG hS hB hW
 go_enter Tryz.func8,Tryz.ntmps8
 have K1:=Lib.hid (KS.out tx1 (by decide) (by rw [ex1]) W (Below.refl _ W))
 rw [ex1] at K1
 unfold tx1 at K1
 rw [HW.out] at K1
 go_wp2_with fail
 refine K1.out.mono ?_
 rintro e w1 ⟨rfl,hb1⟩
 rw [← HW.out] at hb1
 have K2:=Lib.hid (KS.out tx2 (by decide) (by rw [ex2]) w1 hb1)
 rw [ex2] at K2
 unfold tx2 at K2
 have HB1:=Lib.hid hb1
 clear hb1 K1
 go_wp2_with fail
 refine K2.out.mono ?_
 rintro e w2 ⟨rfl,hb2⟩
 have HB2:=Lib.hid (Below.then HB1.out hb2)
 have K3:=Lib.hid (KS.out tx3 (by decide) (by rw [ex3]) w2 HB2.out)
 rw [ex3] at K3
 unfold tx3 at K3
 clear hb2 K2
 go_wp2_with fail
 refine K3.out.mono ?_
 rintro e w3 ⟨rfl,hb3⟩
 have HB3:=Lib.hid (Below.then HB2.out hb3)
 have K4:=Lib.hid (KS.out tx4 (by decide) (by rw [ex4]) w3 HB3.out)
 rw [ex4] at K4
 unfold tx4 at K4
 clear hb3 K3
 go_wp2_with fail
 refine K4.out.mono ?_
 rintro e w4 ⟨rfl,hb4⟩
 have HB4:=Lib.hid (Below.then HB.out (Below.then HB3.out hb4))
 clear hb4 K4 KS
 dsimp only [Option.getD]
 go_wp2_with fail
 go_ret
 exact ⟨rfl,HB4.out⟩
end
end Go.Proofs.YthekfpgegiffoaaGreatDoor
