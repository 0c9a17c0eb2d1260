/- What is proved: what the program's Defined tells. (and what stands with it) -/
import Derived.Test.YthekfpgegiffoaaGreatDoorQf
import Derived.Test.YthekfpgegiffoaaGreatDoorQn
import Derived.Shelf.Pu.ToErrorRange
import Derived.Shelf.Pu.ToError
import Derived.Test.YthekfpgegiffoaaGreatDoorQb
import Derived.Test.YthekfpgegiffoaaGreatDoorQc
import Derived.Lib.ConvBytes
import Derived.Laws.Closers25
import Derived.Laws.Closers25b
set_option linter.unusedSimpArgs false
set_option linter.unusedVariables false
set_option maxHeartbeats 16000000
set_option maxRecDepth 100000
namespace Go.Proofs.YthekfpgegiffoaaGreatDoor
section
open Go.RowKit Go.Shelf
def DefPost (S : Option (List K)) (w : World) (e : Ending) (w' : World) : Prop :=
 ∃ v er l',e = .returned (.tuple #[v, .int .i64 er]) ∧ Ks w' v l' ∧ Below w.heap.size w w' ∧ ((S = none ∧ er = 90 ∧ l' = []) ∨ (S = some l' ∧ er = 0))
theorem isDef_yes {t : K} (h1 : t.kind = 1) (h2 : t.text = Ie.DEF) : Ie.isDef t = true:=by unfold Ie.isDef; rw [decide_eq_true h1,decide_eq_true h2]; rfl
theorem isDef_no {t : K} (h : ¬ (t.kind = 1 ∧ t.text = Ie.DEF)) : Ie.isDef t = false:=by
 unfold Ie.isDef
 rw [Bool.and_eq_false_iff,decide_eq_false_iff_not,decide_eq_false_iff_not]
 by_cases h1 : t.kind = 1
 ·exact .inr fun h2 => h ⟨h1,h2⟩
 ·exact .inl h1
theorem Ie.defd_no {ns : List ByteArray} {f : Nat} {t : K} {r acc : List K} (h : Ie.isDef t = false) : (Ie.defd ns (f + 1) (t :: r)).map (acc ++ ·) = (Ie.defd ns f r).map ((acc ++ [t]) ++ ·):=by
 show (if Ie.isDef t then _ else (Ie.defd ns f r).map (t :: ·)).map _ = _
 rw [if_neg (by rw [h]; decide),Option.map_map]
 congr 1
 funext x
 simp
theorem Ie.defd_none {ns : List ByteArray} {f : Nat} {t : K} {r acc : List K} (h : Ie.isDef t = true) (hq : Ie.asked r = none) : (Ie.defd ns (f + 1) (t :: r)).map (acc ++ ·) = none:=by
 show (if Ie.isDef t then (match Ie.asked r with | none => none | some (x,n) => _) else _).map _ = _
 rw [if_pos h,hq]
 rfl
theorem Ie.defd_yes {ns : List ByteArray} {f n : Nat} {x : ByteArray} {t : K} {r acc : List K} (h : Ie.isDef t = true) (hq : Ie.asked r = some (x,n)) :
  (Ie.defd ns (f + 1) (t :: r)).map (acc ++ ·) = (Ie.defd ns f (r.drop n)).map ((acc ++ [Ie.told ns t x]) ++ ·):=by
 show (if Ie.isDef t then (match Ie.asked r with | none => none | some (x,n) => (Ie.defd ns f (r.drop n)).map (Ie.told ns t x :: ·)) else _).map _ = _
 rw [if_pos h,hq]
 show ((Ie.defd ns f (r.drop n)).map (Ie.told ns t x :: ·)).map _ = _
 rw [Option.map_map]
 congr 1
 funext y
 simp
theorem Ie.defd_end (ns : List ByteArray) (f : Nat) (acc : List K) : (Ie.defd ns f []).map (acc ++ ·) = some acc:=by
 cases f <;> simp [Ie.defd]
structure DI (w : World) (mb L : Nat) (l : List K) (ns : List ByteArray) (S : Option (List K)) (o : Value) (k : Nat) (acc : List K) (f : Nat) (wr : World) : Prop where
 le : k ≤ L
 nm : Nms wr mb ns
 row : wr.ownsRow (w.heap.size + 1) 63 6 o acc.length (ksCells acc)
 bl : Below w.heap.size w wr
 len : acc.length ≤ k
 fuel : L - k ≤ f
 spec : S = (Ie.defd ns f (l.drop k)).map (acc ++ ·)
theorem DI.add {w wr w2 w3 : World} {mb L k m f' : Nat} {l : List K} {ns : List ByteArray} {S : Option (List K)} {o : Value} {acc : List K} {f : Nat} {t : K} {g cap : Nat}
  (h : DI w mb L l ns S o k acc f wr) (hmb : mb = w.heap.size) (hB : Below wr.heap.size wr w2) (hrow : w3.ownsRow (w.heap.size + 1) 63 6 (.slice (some ⟨g,0,none⟩) (acc.length + 1) cap) (acc.length + 1) (ksCells acc ++ kCells t))
  (hg : w2.grownBy w3 o.ownBlock) (hk : k < m) (hm : m ≤ L) (hf : L - m ≤ f') (hs : S = (Ie.defd ns f' (l.drop m)).map ((acc ++ [t]) ++ ·)) :
  DI w mb L l ns S (.slice (some ⟨g,0,none⟩) (acc.length + 1) cap) m (acc ++ [t]) f' w3:=by
 have hne : o.ownBlock ≠ some mb:=fun e => by have:=(h.row.lt mb e).1; omega
 refine ⟨hm,(h.nm.keep hB).grown hg hne,?_,?_,by rw [List.length_append]; have:=h.len; simp; omega,hf,hs⟩
 ·rw [ksCells_append,List.length_append]
  show w3.ownsRow _ _ _ _ (acc.length + 1) _
  simpa [ksCells] using hrow
 ·exact (Below.then h.bl hB).grown hg (by have:=h.bl.size; have:=hB.size; omega) fun i e => by have:=(h.row.lt i e).1; omega
theorem idef_any (v u : Value) (l : List K) (ns : List ByteArray) (w : World) (hv : Ks w v l) (hT : Tb l) (hu : Sts w u ns) (hn : ns.length ≤ 1000000) (hz : ∀ s ∈ ns,s.size ≤ maxLen) :
  Calls Tryz.prog 115 #[v,u] w (DefPost (Ie.defd ns l.length l) w):=by
 obtain ⟨S,hS⟩ : ∃ S,S = Ie.defd ns l.length l:=⟨_,rfl⟩
 rw [← hS]
 have HS:=Lib.hid hS
 obtain ⟨i0,hi,hz0,hz1,hz2⟩:=info_parts infoTok
 obtain ⟨uad,ucap,rfl,uc1,uc2, -⟩:=id hu
 obtain ⟨ad,cap,rfl,lc1,lc2, -⟩:=id hv
 obtain ⟨n,hnn⟩ : ∃ n,n = ns.length:=⟨_,rfl⟩
 obtain ⟨L,hL⟩ : ∃ L,L = l.length:=⟨_,rfl⟩
 have hL1 : L ≤ 1000000:=by rw [hL]; exact hT.1
 rw [← hnn] at hu uc1 hn
 rw [← hL] at hv lc1
 rw [← hnn,← hL]
 have HU:=Lib.hid hu
 have HV:=Lib.hid hv
 have HT:=Lib.hid hT
 have HZ:=Lib.hid hz
 have HN:=Lib.hid hnn
 have HL:=Lib.hid hL
 unfold maxLen at uc2 lc2
 have hmm:=@run_makeMap Tryz.prog
 clear hS hu hv hT hz hnn hL
 go_enter Tryz.func115,Tryz.ntmps115
 go_wp2_with fail
 have hB1 : Below w.heap.size w (w.alloc (.map #[] 0)):=Below.alloc (Below.refl _ _) (Nat.le_refl _) _
 have HB1:=Lib.hid hB1
 have HM1:=Lib.hid (nms_made w)
 clear hB1 hmm
 go_loopw [19] (fun vi wr => ∃ k : Nat,vi = .int .i64 k ∧ k ≤ n ∧ Nms wr w.heap.size (ns.take k) ∧ Below w.heap.size w wr) (fun vi _ => n - (intOf vi).toNat)
 case atStart => exact ⟨0,rfl,Nat.zero_le _,HM1.out,HB1.out⟩
 case round =>
  obtain ⟨k,rfl,hk,hnm,hB⟩:=hrel
  by_cases hlt : k < n
  ·obtain ⟨x,hx⟩ : ∃ x,ns[k]? = some x:=⟨_,List.getElem?_eq_getElem (by rw [← HN.out]; exact hlt)⟩
   obtain ⟨ad',cap',e, -, -,h3⟩:=HU.out.below hB
   injection e with e1 e2 e3
   subst e1
   obtain ⟨g,o,rfl,c0⟩:=h3 k x hx
   have hxm:=HZ.out x (List.mem_of_getElem? hx)
   obtain ⟨W',r1,hN',hgr⟩:=hnm.put x hxm (by rw [List.length_take]; unfold maxLen; omega)
   have htk : ns.take (k + 1) = ns.take k ++ [x]:=by
    obtain ⟨h1,h2⟩:=List.getElem?_eq_some_iff.1 hx
    rw [List.take_succ_eq_append_getElem h1,h2]
   have HTK:=Lib.hid htk
   have HN':=Lib.hid hN'
   have HB2:=Lib.hid (hB.grown hgr hB.size (fun i e => by cases e; exact Nat.le_refl _))
   have z1 : (0 : Int) ≤ k:=by omega
   have z2 : (k : Int) < n:=by omega
   clear hx h3 htk hN' hgr hB hnm hxm e2 e3
   go_wp2_with fail
   go_roundw
   case rel => exact ⟨k + 1,by go_num,by omega,by rw [HTK.out]; exact HN'.out,HB2.out⟩
   case measure => simp [intOf]; omega
  ·obtain rfl : k = n:=by omega
   rw [List.take_of_length_le (by rw [← HN.out]; exact Nat.le_refl _)] at hnm
   have hdi : DI w w.heap.size L l ns S (.slice none 0 0) 0 [] L wr:=⟨Nat.zero_le _,hnm,⟨by simp [ksCells], .inl ⟨rfl,rfl⟩⟩,hB,Nat.le_refl _,by omega,by rw [HS.out,← HL.out]; simp⟩
   have HDI:=Lib.hid hdi
   clear hnm hB hdi
   go_wp2_with fail
   go_loopw [9,10] (fun vo va wr => ∃ o,o = vo ∧ ∃ k acc f,va = .int .i64 (k : Nat) ∧ DI w w.heap.size L l ns S o k acc f wr) (fun _ va _ => L - (intOf va).toNat)
   case atStart => exact ⟨_,rfl,0,[],L,rfl,HDI.out⟩
   case round =>
    obtain ⟨o,ho,k,acc,f,rfl,hD⟩:=hrel
    subst ho
    by_cases hlt : k < L
    ·obtain ⟨t,ht⟩ : ∃ t,l[k]? = some t:=⟨_,List.getElem?_eq_getElem (by rw [← HL.out]; exact hlt)⟩
     obtain ⟨f,rfl⟩ : ∃ f',f = f' + 1:=⟨f - 1,by have:=hD.fuel; omega⟩
     have hdrop : l.drop k = t :: l.drop (k + 1):=by
      obtain ⟨h1,h2⟩:=List.getElem?_eq_some_iff.1 ht
      rw [List.drop_eq_getElem_cons h1,h2]
     obtain ⟨g,og,e, -, -, -,hg,hc⟩:=((HV.out.below hD.bl)).cells (by rw [← HL.out]; omega)
     subst e
     obtain ⟨d0,d1,d2,d3,d4,d5⟩:=hc k t ht
     have hspec:=hD.spec
     rw [hdrop] at hspec
     have HSP:=Lib.hid hspec
     have HD:=Lib.hid hD
     have HRST:=Lib.hid hdrop
     have htm : t ∈ l:=List.mem_of_getElem? ht
     have hlen:=hD.len
     have hrow:=hD.row
     have hbs:=hD.bl.size
     obtain ⟨m,hm⟩ : ∃ m,m = acc.length:=⟨_,rfl⟩
     obtain ⟨cs,hcs⟩ : ∃ cs,cs = ksCells acc:=⟨_,rfl⟩
     rw [← hm] at hlen
     rw [← hm,← hcs] at hrow
     have HM:=Lib.hid hm
     have HCS:=Lib.hid hcs
     have HROW:=Lib.hid hrow
     have z1 : (0 : Int) ≤ k:=by omega
     have z2 : (k : Int) < L:=by omega
     have HHC:=Lib.hid hc
     clear hdrop hspec hD hm hcs hrow ht hc
     by_cases hdf : t.kind = 1 ∧ t.text = Ie.DEF
     ·have hisd : Ie.isDef t = true:=isDef_yes hdf.1 hdf.2
      obtain ⟨kd,tx,tf,fr,en,bl⟩:=t
      dsimp only at d0 d1 d2 d3 d4 d5 hdf
      have e1 : (tx.toList == [100,101,102,105,110,101,100]) = true:=lit_yes hdf.2
      have hkd : kd = 1:=hdf.1
      have HISD:=Lib.hid hisd
      clear hdf hisd
      -- what stands behind
      have hal:=heap_alloc_new wr (.cells #[.int .i64 kd, .string tx, .int .i64 tf, .int .i64 fr, .int .i64 en, .bool bl] 63)
      obtain ⟨Bx,hBx⟩ : ∃ Bx,Bx = wr.heap.size:=⟨_,rfl⟩
      have hA : Below wr.heap.size wr (wr.alloc (.cells #[.int .i64 kd, .string tx, .int .i64 tf, .int .i64 fr, .int .i64 en, .bool bl] 63)):=Below.alloc (Below.refl _ _) (Nat.le_refl _) _
      have hKs1:=HV.out.below (Below.then HD.out.bl hA)
      rw [← hBx] at hal
      have HAL:=Lib.hid hal
      have HA:=Lib.hid hA
      have HBX:=Lib.hid hBx
      subst hkd
      rcases Decidable.em (k + 1 = cap) with hcap | hcap
      ·have hrest : l.drop (k + 1) = []:=List.drop_eq_nil_of_le (by rw [← HL.out]; omega)
       have hS2 : S = none:=by
        rw [HSP.out,hrest]
        exact Ie.defd_none HISD.out rfl
       have HS2:=Lib.hid hS2
       have hcapL : cap = L:=by omega
       subst hcapL
       have hkc : (k : Int) + 1 = cap:=by omega
       have K1 : Hid (Calls Tryz.prog 148 #[.slice (some ⟨g,og,none⟩) 0 0] (wr.alloc (.cells #[.int .i64 1, .string tx, .int .i64 tf, .int .i64 fr, .int .i64 en, .bool bl] 63)) fun e w' => e = .returned (.tuple #[.string ⟨#[]⟩, .int .i64 0]) ∧ Below (wr.alloc (.cells #[.int .i64 1, .string tx, .int .i64 tf, .int .i64 fr, .int .i64 en, .bool bl] 63)).heap.size (wr.alloc (.cells #[.int .i64 1, .string tx, .int .i64 tf, .int .i64 fr, .int .i64 en, .bool bl] 63)) w') :=
        Lib.hid (asked_any (.slice (some ⟨g,og,none⟩) 0 0) [] _ (Ks.none_at _ _ 0 (Nat.zero_le _)))
       clear hrest hS2 hal hBx hA hKs1
       go_wp2_with fail
       refine K1.out.mono ?_
       rintro en3 w3 ⟨rfl,hB3⟩
       go_wp2_with fail
       go_ret2
       exact ⟨_,90,[],rfl,Ks.none_at _ _ _ (by decide),Below.then (Below.then HD.out.bl HA.out) hB3, .inl ⟨HS2.out,rfl,rfl⟩⟩
      ·have hpt:=hKs1.part (k + 1) L (by omega) (by rw [← HL.out]; exact Nat.le_refl _)
       rw [List.take_of_length_le (by rw [List.length_drop,← HL.out]; exact Nat.le_refl _)] at hpt
       have K0:=asked_any _ _ _ hpt
       obtain ⟨r,hr⟩ : ∃ r,r = l.drop (k + 1):=⟨_,rfl⟩
       rw [← hr] at K0
       have HR:=Lib.hid hr
       cases hq : Ie.asked r with
       | none =>
        rw [hq] at K0
        have hS2 : S = none:=by
         rw [HSP.out,← hr]
         exact Ie.defd_none HISD.out hq
        have HS2:=Lib.hid hS2
        have K1 : Hid (Calls Tryz.prog 148 #[.slice (some ⟨g,og + (k + 1) * 6,none⟩) (L - (k + 1)) (cap - (k + 1))] (wr.alloc (.cells #[.int .i64 1, .string tx, .int .i64 tf, .int .i64 fr, .int .i64 en, .bool bl] 63)) fun e w' => e = .returned (.tuple #[.string ⟨#[]⟩, .int .i64 0]) ∧ Below (wr.alloc (.cells #[.int .i64 1, .string tx, .int .i64 tf, .int .i64 fr, .int .i64 en, .bool bl] 63)).heap.size (wr.alloc (.cells #[.int .i64 1, .string tx, .int .i64 tf, .int .i64 fr, .int .i64 en, .bool bl] 63)) w'):=Lib.hid K0
        clear hS2 hal hBx hA hKs1 hpt K0 hr hq
        go_wp2_with fail
        refine K1.out.mono ?_
        rintro en3 w3 ⟨rfl,hB3⟩
        go_wp2_with fail
        go_ret2
        exact ⟨_,90,[],rfl,Ks.none_at _ _ _ (by decide),Below.then (Below.then HD.out.bl HA.out) hB3, .inl ⟨HS2.out,rfl,rfl⟩⟩
       | some xn =>
        obtain ⟨x,nn⟩:=xn
        rw [hq] at K0
        obtain ⟨hn0,hn1,hn3⟩:=Ie.asked_len hq
        have hxs : x.size ≤ maxLen:=by
         obtain ⟨y,hy,rfl⟩:=Ie.asked_mem hq
         have:=HT.out.2 y (by rw [hr] at hy; exact List.mem_of_mem_drop hy)
         unfold maxLen; omega
        have hkn : k + 1 + nn ≤ L:=by rw [hr,List.length_drop,← HL.out] at hn1; omega
        have hS2 : S = (Ie.defd ns f (l.drop (k + 1 + nn))).map ((acc ++ [Ie.told ns ⟨1,tx,tf,fr,en,bl⟩ x]) ++ ·):=by
         rw [HSP.out,← hr,Ie.defd_yes HISD.out hq,hr,List.drop_drop]
        have HS2:=Lib.hid hS2
        have K1 : Hid (Calls Tryz.prog 148 #[.slice (some ⟨g,og + (k + 1) * 6,none⟩) (L - (k + 1)) (cap - (k + 1))] (wr.alloc (.cells #[.int .i64 1, .string tx, .int .i64 tf, .int .i64 fr, .int .i64 en, .bool bl] 63)) fun e w' => e = .returned (.tuple #[.string x, .int .i64 nn]) ∧ Below (wr.alloc (.cells #[.int .i64 1, .string tx, .int .i64 tf, .int .i64 fr, .int .i64 en, .bool bl] 63)).heap.size (wr.alloc (.cells #[.int .i64 1, .string tx, .int .i64 tf, .int .i64 fr, .int .i64 en, .bool bl] 63)) w'):=Lib.hid K0
        have zn : ¬ ((nn : Int) = 0):=by omega
        have zn0 : (0 : Int) ≤ nn:=by omega
        have HXS:=Lib.hid hxs
        clear hS2 hBx hKs1 hpt K0 hr hq hn1 hxs hal hA
        go_wp2_with fail
        refine K1.out.mono ?_
        rintro en3 w3 ⟨rfl,hB3⟩
        have hb3:=below_heap hB3 HAL.out
        rw [HBX.out] at hb3
        obtain ⟨b0,b1, -, -, -, -⟩:=box6_cells hb3
        have f0 : w3.frozen? ⟨wr.heap.size,0,none⟩ = false:=Lib.frozen_of_heap hb3 0
        have f1 : w3.frozen? ⟨wr.heap.size,1,none⟩ = false:=Lib.frozen_of_heap hb3 1
        have hB4 : Below wr.heap.size wr ((w3.setCell ⟨wr.heap.size,0,none⟩ (.int .i64 2)).setCell ⟨wr.heap.size,1,none⟩ (.string ⟨#[48]⟩)):=((Below.then HA.out hB3).setCell (Nat.le_refl _) _).setCell (Nat.le_refl _) _
        have hb4 : ((w3.setCell ⟨wr.heap.size,0,none⟩ (.int .i64 2)).setCell ⟨wr.heap.size,1,none⟩ (.string ⟨#[48]⟩)).heap[wr.heap.size]? = some (.cells #[.int .i64 2, .string ⟨#[48]⟩, .int .i64 tf, .int .i64 fr, .int .i64 en, .bool bl] 63 (0,0)):=by
         simp [World.setCell,Array.getElem?_modify,hb3]
        have hnm4:=HD.out.nm.keep hB4
        have HB4:=Lib.hid hB4
        have HBB4:=Lib.hid hb4
        have HNM4:=Lib.hid hnm4
        clear hB3 hb3 hB4 hb4 hnm4 d0 d1 d2 d3 d4 d5
        go_upto_region 18 with (fail)
        obtain ⟨W4,hW4⟩ : ∃ W4,W4 = ((w3.setCell ⟨wr.heap.size,0,none⟩ (.int .i64 2)).setCell ⟨wr.heap.size,1,none⟩ (.string ⟨#[48]⟩)):=⟨_,rfl⟩
        rw [← hW4] at HB4 HBB4 HNM4
        rw [← hW4]
        clear hW4 f0 f1 b0 b1
        have l1:=HNM4.out.look x HXS.out
        obtain ⟨q,hq⟩ : ∃ q,q = Ie.has ns x:=⟨_,rfl⟩
        rw [← hq] at l1
        have HQ:=Lib.hid hq
        have hB5 : Below wr.heap.size wr (W4.alloc (.cells #[] 165)):=HB4.out.alloc HB4.out.size _
        have hb5 : (W4.alloc (.cells #[] 165)).heap[wr.heap.size]? = some (.cells #[.int .i64 2, .string ⟨#[48]⟩, .int .i64 tf, .int .i64 fr, .int .i64 en, .bool bl] 63 (0,0)):=below_heap (Below.alloc (Below.refl _ _) (Nat.le_refl _) _) HBB4.out
        have f5 : (W4.alloc (.cells #[] 165)).frozen? ⟨wr.heap.size,1,none⟩ = false:=Lib.frozen_of_heap hb5 1
        obtain ⟨-,b1, -, -, -, -⟩:=box6_cells hb5
        have HB5:=Lib.hid hB5
        have HBB5:=Lib.hid hb5
        clear hq hB5 hb5
        cases q with
        | false =>
         go_upto_region 21 with (fail)
         have hB6:=HB5.out
         have hb6:=HBB5.out
         obtain ⟨W6,hW6⟩ : ∃ W6,W6 = W4.alloc (.cells #[] 165):=⟨_,rfl⟩
         rw [← hW6] at hB6 hb6
         rw [← hW6]
         clear hW6 b1 f5 l1 HB4 HBB4 HNM4 HB5 HBB5
         have htold : Ie.told ns ⟨1,tx,tf,fr,en,bl⟩ x = ⟨2,⟨#[48]⟩,tf,fr,en,bl⟩:=by unfold Ie.told; rw [← HQ.out]; rfl
         obtain ⟨b0,b1,b2,b3,b4,b5⟩:=box6_cells hb6
         have hrow6:=row_below HROW.out hB6
         have h6s:=hB6.size
         have HB6:=Lib.hid hB6
         have HROW6:=Lib.hid hrow6
         clear hB6 hb6 hrow6
         go_wp2_with (at_builtin; refine wpList_append_lies _ rfl _ _ 44 rfl (w.heap.size + 1) 63 i0 _ 6 56 Tryz.underlying44 hi hz0 hz1 hz2 rfl (by decide) o m cs rfl (HROW6.out.alloc _) ⟨W6.heap.size,0,none⟩ 1 1 (kCells ⟨2,⟨#[48]⟩,tf,fr,en,bl⟩) rfl rfl (World.news_of_block (cs:=#[.int .i64 2, .string ⟨#[48]⟩, .int .i64 tf, .int .i64 fr, .int .i64 en, .bool bl]) (t:=63) (fr:=(0,0)) (heap_alloc_new W6 _)) (by simp [Value.oneCell',kCells]) (by decide) (by unfold maxLen; omega) (by omega) (by simp; omega) _ rfl ?_; intro gg cap' w7 hown7 hgrow hat hlt7)
         go_roundw
         case rel =>
          refine ⟨_,rfl,k + 1 + nn,acc ++ [⟨2,⟨#[48]⟩,tf,fr,en,bl⟩],f,?_,?_⟩
          ·congr 1; omega
          ·have hx:=HD.out.add (t:=⟨2,⟨#[48]⟩,tf,fr,en,bl⟩) (g:=gg) (cap:=cap') (m:=k + 1 + nn) (f':=f) rfl (HB6.out.alloc HB6.out.size (.cells #[.int .i64 2, .string ⟨#[48]⟩, .int .i64 tf, .int .i64 fr, .int .i64 en, .bool bl] 63)) (by rw [← HM.out,← HCS.out]; exact hown7) hgrow (by omega) hkn (by have:=HD.out.fuel; omega) (by rw [← htold]; exact HS2.out)
           rw [← HM.out] at hx
           exact hx
         case measure => simp [intOf]; omega
        | true =>
         go_upto_region 21 with (fail)
         have hB6:=HB5.out.setCell (p:=⟨wr.heap.size,1,none⟩) (Nat.le_refl _) (.string ⟨#[49]⟩)
         have hb6 : ((W4.alloc (.cells #[] 165)).setCell ⟨wr.heap.size,1,none⟩ (.string ⟨#[49]⟩)).heap[wr.heap.size]? = some (.cells #[.int .i64 2, .string ⟨#[49]⟩, .int .i64 tf, .int .i64 fr, .int .i64 en, .bool bl] 63 (0,0)):=by
          have:=HBB5.out
          simp [World.setCell,Array.getElem?_modify] at this ⊢
          simp [this]
         obtain ⟨W6,hW6⟩ : ∃ W6,W6 = (W4.alloc (.cells #[] 165)).setCell ⟨wr.heap.size,1,none⟩ (.string ⟨#[49]⟩):=⟨_,rfl⟩
         rw [← hW6] at hB6 hb6
         rw [← hW6]
         clear hW6 b1 f5 l1 HB4 HBB4 HNM4 HB5 HBB5
         have htold : Ie.told ns ⟨1,tx,tf,fr,en,bl⟩ x = ⟨2,⟨#[49]⟩,tf,fr,en,bl⟩:=by unfold Ie.told; rw [← HQ.out]; rfl
         obtain ⟨b0,b1,b2,b3,b4,b5⟩:=box6_cells hb6
         have hrow6:=row_below HROW.out hB6
         have h6s:=hB6.size
         have HB6:=Lib.hid hB6
         have HROW6:=Lib.hid hrow6
         clear hB6 hb6 hrow6
         go_wp2_with (at_builtin; refine wpList_append_lies _ rfl _ _ 44 rfl (w.heap.size + 1) 63 i0 _ 6 56 Tryz.underlying44 hi hz0 hz1 hz2 rfl (by decide) o m cs rfl (HROW6.out.alloc _) ⟨W6.heap.size,0,none⟩ 1 1 (kCells ⟨2,⟨#[49]⟩,tf,fr,en,bl⟩) rfl rfl (World.news_of_block (cs:=#[.int .i64 2, .string ⟨#[49]⟩, .int .i64 tf, .int .i64 fr, .int .i64 en, .bool bl]) (t:=63) (fr:=(0,0)) (heap_alloc_new W6 _)) (by simp [Value.oneCell',kCells]) (by decide) (by unfold maxLen; omega) (by omega) (by simp; omega) _ rfl ?_; intro gg cap' w7 hown7 hgrow hat hlt7)
         go_roundw
         case rel =>
          refine ⟨_,rfl,k + 1 + nn,acc ++ [⟨2,⟨#[49]⟩,tf,fr,en,bl⟩],f,?_,?_⟩
          ·congr 1; omega
          ·have hx:=HD.out.add (t:=⟨2,⟨#[49]⟩,tf,fr,en,bl⟩) (g:=gg) (cap:=cap') (m:=k + 1 + nn) (f':=f) rfl (HB6.out.alloc HB6.out.size (.cells #[.int .i64 2, .string ⟨#[49]⟩, .int .i64 tf, .int .i64 fr, .int .i64 en, .bool bl] 63)) (by rw [← HM.out,← HCS.out]; exact hown7) hgrow (by omega) hkn (by have:=HD.out.fuel; omega) (by rw [← htold]; exact HS2.out)
           rw [← HM.out] at hx
           exact hx
         case measure => simp [intOf]; omega
     ·have hisd : Ie.isDef t = false:=isDef_no hdf
      have hS2 : S = (Ie.defd ns f (l.drop (k + 1))).map ((acc ++ [t]) ++ ·):=by rw [HSP.out,Ie.defd_no hisd]
      have HS2:=Lib.hid hS2
      have hA : Below wr.heap.size wr (wr.alloc (.cells #[.int .i64 t.kind, .string t.text, .int .i64 t.file, .int .i64 t.fr, .int .i64 t.en, .bool t.bl] 63)):=Below.alloc (Below.refl _ _) (Nat.le_refl _) _
      have hA2:=hA.alloc hA.size (.cells #[.int .i64 t.kind, .string t.text, .int .i64 t.file, .int .i64 t.fr, .int .i64 t.en, .bool t.bl] 63)
      have HA2:=Lib.hid hA2
      have hcases : (t.kind = 1 ∧ ¬ t.text = Ie.DEF) ∨ ¬ t.kind = 1:=by
       by_cases h1 : t.kind = 1
       ·exact .inl ⟨h1,fun h2 => hdf ⟨h1,h2⟩⟩
       ·exact .inr h1
      obtain ⟨kd,tx,tf,fr,en,bl⟩:=t
      dsimp only at d0 d1 d2 d3 d4 d5 hcases HA2 hA
      clear hisd hS2 hdf hA hA2 htm HRST HSP
      rcases hcases with ⟨hkd,htx⟩ | hkd
      ·have e1 : (tx.toList == [100,101,102,105,110,101,100]) = false:=lit_no htx
       subst hkd
       clear htx
       go_wp2_with (at_builtin; refine wpList_append_lies _ rfl _ _ 44 rfl (w.heap.size + 1) 63 i0 _ 6 56 Tryz.underlying44 hi hz0 hz1 hz2 rfl (by decide) o m cs rfl ((HROW.out.alloc _).alloc _) ⟨wr.heap.size + 1,0,none⟩ 1 1 (kCells ⟨1,tx,tf,fr,en,bl⟩) rfl rfl (World.news_of_block (cs:=#[.int .i64 1, .string tx, .int .i64 tf, .int .i64 fr, .int .i64 en, .bool bl]) (t:=63) (fr:=(0,0)) (heap_alloc2 wr _ _)) (by simp [Value.oneCell',kCells]) (by decide) (by unfold maxLen; omega) (by omega) (by simp; omega) _ rfl ?_; intro gg cap' w7 hown7 hgrow hat hlt7)
       go_roundw
       case rel =>
        refine ⟨_,rfl,k + 1,acc ++ [⟨1,tx,tf,fr,en,bl⟩],f,by go_num,?_⟩
        have hx:=HD.out.add (t:=⟨1,tx,tf,fr,en,bl⟩) (g:=gg) (cap:=cap') (m:=k + 1) (f':=f) rfl HA2.out (by rw [← HM.out,← HCS.out]; exact hown7) hgrow (by omega) (by omega) (by have:=HD.out.fuel; omega) HS2.out
        rw [← HM.out] at hx
        exact hx
       case measure => simp [intOf]; omega
      ·skip
       go_wp2_with (at_builtin; refine wpList_append_lies _ rfl _ _ 44 rfl (w.heap.size + 1) 63 i0 _ 6 56 Tryz.underlying44 hi hz0 hz1 hz2 rfl (by decide) o m cs rfl ((HROW.out.alloc _).alloc _) ⟨wr.heap.size + 1,0,none⟩ 1 1 (kCells ⟨kd,tx,tf,fr,en,bl⟩) rfl rfl (World.news_of_block (cs:=#[.int .i64 kd, .string tx, .int .i64 tf, .int .i64 fr, .int .i64 en, .bool bl]) (t:=63) (fr:=(0,0)) (heap_alloc2 wr _ _)) (by simp [Value.oneCell',kCells]) (by decide) (by unfold maxLen; omega) (by omega) (by simp; omega) _ rfl ?_; intro gg cap' w7 hown7 hgrow hat hlt7)
       go_roundw
       case rel =>
        refine ⟨_,rfl,k + 1,acc ++ [⟨kd,tx,tf,fr,en,bl⟩],f,by go_num,?_⟩
        have hx:=HD.out.add (t:=⟨kd,tx,tf,fr,en,bl⟩) (g:=gg) (cap:=cap') (m:=k + 1) (f':=f) rfl HA2.out (by rw [← HM.out,← HCS.out]; exact hown7) hgrow (by omega) (by omega) (by have:=HD.out.fuel; omega) HS2.out
        rw [← HM.out] at hx
        exact hx
       case measure => simp [intOf]; omega
    ·obtain rfl : k = L:=by have:=hD.le; omega
     have hS2 : S = some acc:=by
      rw [hD.spec,List.drop_eq_nil_of_le (by rw [← HL.out]; exact Nat.le_refl _)]
      exact Ie.defd_end ns f acc
     have hKs:=Ks.of_row (base:=w.heap.size + 1) hD.row
     have HF:=Lib.hid (And.intro hKs (And.intro hD.bl hS2))
     clear hD hS2 hKs
     go_wp2_with fail
     go_ret2
     exact ⟨_,0,acc,rfl,HF.out.1,HF.out.2.1, .inr ⟨HF.out.2.2,rfl⟩⟩
end
section
open Go.Shelf
def laysPu17_ren : Go.Shelf.Ren:=⟨fun | 17 => 311 | 21 => 325 | 22 => 326 | 23 => 327 | 24 => 328 | 25 => 337 | 27 => 339 | 26 => 338 | 28 => 342 | 29 => 343 | 30 => 344 | 31 => 345 | 32 => 346 | 33 => 347 | 35 => 138 | 34 => 348 | 36 => 349 | 37 => 350 | 38 => 351 | 39 => 352 | 40 => 353 | n => n,fun | 9 => 9 | 3 => 3 | 24 => 108 | 34 => 457 | 4 => 4 | 39 => 459 | 44 => 469 | 37 => 204 | 0 => 0 | 47 => 261 | 50 => 481 | 48 => 479 | 2 => 2 | 52 => 483 | 22 => 256 | 5 => 5 | 55 => 485 | 59 => 488 | 60 => 254 | 20 => 20 | 61 => 489 | 36 => 196 | 65 => 490 | 66 => 491 | 67 => 208 | n => n,fun | 0 => 4 | 1 => 5 | 2 => 8 | 3 => 9 | 4 => 10 | n => n⟩
theorem laysPu17 : Go.Proofs.LaysPu.n17 Tryz.prog laysPu17_ren:={
 mixed:=by kernel_rfl
 f17:=Tryz.func311.trans (congrArg some (by kernel_rfl))
 f21:=Tryz.func325.trans (congrArg some (by kernel_rfl))
 f22:=Tryz.func326.trans (congrArg some (by kernel_rfl))
 f23:=Tryz.func327.trans (congrArg some (by kernel_rfl))
 f24:=Tryz.func328.trans (congrArg some (by kernel_rfl))
 f25:=Tryz.func337.trans (congrArg some (by kernel_rfl))
 f26:=Tryz.func338.trans (congrArg some (by kernel_rfl))
 f27:=Tryz.func339.trans (congrArg some (by kernel_rfl))
 f28:=Tryz.func342.trans (congrArg some (by kernel_rfl))
 f29:=Tryz.func343.trans (congrArg some (by kernel_rfl))
 f30:=Tryz.func344.trans (congrArg some (by kernel_rfl))
 f31:=Tryz.func345.trans (congrArg some (by kernel_rfl))
 f32:=Tryz.func346.trans (congrArg some (by kernel_rfl))
 f33:=Tryz.func347.trans (congrArg some (by kernel_rfl))
 f34:=Tryz.func348.trans (congrArg some (by kernel_rfl))
 f35:=Tryz.func138.trans (congrArg some (by kernel_rfl))
 f36:=Tryz.func349.trans (congrArg some (by kernel_rfl))
 f37:=Tryz.func350.trans (congrArg some (by kernel_rfl))
 f38:=Tryz.func351.trans (congrArg some (by kernel_rfl))
 f39:=Tryz.func352.trans (congrArg some (by kernel_rfl))
 f40:=Tryz.func353.trans (congrArg some (by kernel_rfl))
 t0:=Tryz.underlying0
 a0:=Tryz.isAgg0
 z0:=Tryz.sizeOf0
 v0:=Tryz.zeroValue0
 i0:=by kernel_rfl
 t2:=Tryz.underlying2
 a2:=Tryz.isAgg2
 z2:=Tryz.sizeOf2
 v2:=Tryz.zeroValue2
 i2:=by kernel_rfl
 t3:=Tryz.underlying3
 a3:=Tryz.isAgg3
 z3:=Tryz.sizeOf3
 v3:=Tryz.zeroValue3
 i3:=by kernel_rfl
 t4:=Tryz.underlying4
 a4:=Tryz.isAgg4
 z4:=Tryz.sizeOf4
 v4:=Tryz.zeroValue4
 i4:=by kernel_rfl
 t5:=Tryz.underlying5
 a5:=Tryz.isAgg5
 z5:=Tryz.sizeOf5
 v5:=Tryz.zeroValue5
 i5:=by kernel_rfl
 t9:=Tryz.underlying9
 a9:=Tryz.isAgg9
 z9:=Tryz.sizeOf9
 v9:=Tryz.zeroValue9
 i9:=by kernel_rfl
 t20:=Tryz.underlying20
 a20:=Tryz.isAgg20
 z20:=Tryz.sizeOf20
 v20:=Tryz.zeroValue20
 i20:=by kernel_rfl
 t22:=Tryz.underlying256
 a22:=Tryz.isAgg256
 z22:=Tryz.sizeOf256
 v22:=Tryz.zeroValue256
 i22:=by kernel_rfl
 t24:=Tryz.underlying108
 a24:=Tryz.isAgg108
 z24:=Tryz.sizeOf108
 v24:=Tryz.zeroValue108
 i24:=by kernel_rfl
 t34:=Tryz.underlying457
 a34:=Tryz.isAgg457
 z34:=Tryz.sizeOf457
 v34:=Tryz.zeroValue457
 i34:=by kernel_rfl
 c34:=by kernel_rfl
 t36:=Tryz.underlying196
 a36:=Tryz.isAgg196
 z36:=Tryz.sizeOf196
 v36:=Tryz.zeroValue196
 i36:=by kernel_rfl
 t37:=Tryz.underlying204
 a37:=Tryz.isAgg204
 z37:=Tryz.sizeOf204
 v37:=Tryz.zeroValue204
 i37:=by kernel_rfl
 t39:=Tryz.underlying459
 a39:=Tryz.isAgg459
 z39:=Tryz.sizeOf459
 v39:=Tryz.zeroValue459
 i39:=by kernel_rfl
 t44:=Tryz.underlying469
 a44:=Tryz.isAgg469
 z44:=Tryz.sizeOf469
 v44:=Tryz.zeroValue469
 i44:=by kernel_rfl
 t47:=Tryz.underlying261
 a47:=Tryz.isAgg261
 z47:=Tryz.sizeOf261
 v47:=Tryz.zeroValue261
 i47:=by kernel_rfl
 t48:=Tryz.underlying479
 a48:=Tryz.isAgg479
 z48:=Tryz.sizeOf479
 v48:=Tryz.zeroValue479
 i48:=by kernel_rfl
 t50:=Tryz.underlying481
 a50:=Tryz.isAgg481
 z50:=Tryz.sizeOf481
 v50:=Tryz.zeroValue481
 i50:=by kernel_rfl
 t52:=Tryz.underlying483
 a52:=Tryz.isAgg483
 z52:=Tryz.sizeOf483
 v52:=Tryz.zeroValue483
 i52:=by kernel_rfl
 t55:=Tryz.underlying485
 a55:=Tryz.isAgg485
 z55:=Tryz.sizeOf485
 v55:=Tryz.zeroValue485
 i55:=by kernel_rfl
 t59:=Tryz.underlying488
 a59:=Tryz.isAgg488
 z59:=Tryz.sizeOf488
 v59:=Tryz.zeroValue488
 i59:=by kernel_rfl
 t60:=Tryz.underlying254
 a60:=Tryz.isAgg254
 z60:=Tryz.sizeOf254
 v60:=Tryz.zeroValue254
 i60:=by kernel_rfl
 t61:=Tryz.underlying489
 a61:=Tryz.isAgg489
 z61:=Tryz.sizeOf489
 t65:=Tryz.underlying490
 a65:=Tryz.isAgg490
 z65:=Tryz.sizeOf490
 v65:=Tryz.zeroValue490
 i65:=by kernel_rfl
 t66:=Tryz.underlying491
 a66:=Tryz.isAgg491
 z66:=Tryz.sizeOf491
 v66:=Tryz.zeroValue491
 i66:=by kernel_rfl
 t67:=Tryz.underlying208
 a67:=Tryz.isAgg208
 z67:=Tryz.sizeOf208
 v67:=Tryz.zeroValue208
 i67:=by kernel_rfl
 g0:=by kernel_rfl
 m0:=by kernel_rfl
 g1:=by kernel_rfl
 m1:=by kernel_rfl
 g2:=by kernel_rfl
 m2:=by kernel_rfl
 g3:=by kernel_rfl
 m3:=by kernel_rfl
 g4:=by kernel_rfl
 m4:=by kernel_rfl }
open Go.RowKit
theorem toerr_syntax (fn s : ByteArray) (base bits : Int) (w : World) (hs : s.size ≤ 1000000) (hE : Errs w) :
  Calls Tryz.prog 311 #[.string fn, .string s, .int .i64 base, .int .i64 bits, .iface 457 (.int .i64 2)] w fun e w' => (∃ t p,e = .returned (.iface t p)) ∧ Below w.heap.size w w':=by
 obtain ⟨⟨te,pe,h⟩,_⟩:=hE
 exact (AnyPu.strconv_toError_syntax laysPu17 fn s base bits _ w (by omega) h (.inr ⟨te,pe,rfl⟩)).mono fun e w' ⟨N,h1,_,_,h2⟩ => ⟨⟨_,_,h1⟩,h2⟩
theorem toerr_range (fn s : ByteArray) (base bits : Int) (w : World) (hs : s.size ≤ 1000000) (hE : Errs w) :
  Calls Tryz.prog 311 #[.string fn, .string s, .int .i64 base, .int .i64 bits, .iface 457 (.int .i64 1)] w fun e w' => (∃ t p,e = .returned (.iface t p)) ∧ Below w.heap.size w w':=by
 obtain ⟨_,te,pe,h⟩:=hE
 exact (AnyPu.strconv_toError_range laysPu17 fn s base bits _ w (by omega) h (.inr ⟨te,pe,rfl⟩)).mono fun e w' ⟨N,h1,_,_,h2⟩ => ⟨⟨_,_,h1⟩,h2⟩
end
section
open Go.RowKit Go.Shelf
namespace Ie
inductive PR
 | ok (n : Nat)
 | syn
 | rng
def pu (b : Nat) : Nat → List UInt8 → PR
 | acc,[] => .ok acc
 | acc,c :: r => if dig c < b then (if most < acc * b + dig c then .rng else pu b (acc * b + dig c) r) else .syn
def prV : PR → Int
 | .ok n => n
 | .syn => 0
 | .rng => 9223372036854775807
end Ie
def prE : Ie.PR → Value
 | .ok _ => .nilIface
 | .syn => .iface 457 (.int .i64 2)
 | .rng => .iface 457 (.int .i64 1)
def lowB (c : UInt8) : Int:=bits .or .u8 c.toNat 32
theorem low_cases : ∀ c : UInt8,(0 ≤ lowB c ∧ lowB c ≤ 255) ∧
  ((48 ≤ c.toNat ∧ c.toNat ≤ 57 ∧ Ie.dig c = c.toNat - 48) ∨ (¬ (48 ≤ c.toNat ∧ c.toNat ≤ 57) ∧ c.toNat ≠ 95 ∧ 97 ≤ lowB c ∧ lowB c ≤ 102 ∧ (Ie.dig c : Int) = lowB c - 87) ∨
  (¬ (48 ≤ c.toNat ∧ c.toNat ≤ 57) ∧ c.toNat ≠ 95 ∧ 103 ≤ lowB c ∧ lowB c ≤ 122 ∧ 16 ≤ Ie.dig c) ∨ (¬ (48 ≤ c.toNat ∧ c.toNat ≤ 57) ∧ ¬ (97 ≤ lowB c ∧ lowB c ≤ 122) ∧ 16 ≤ Ie.dig c)):=by
 have key : ∀ n : Fin 256,(0 ≤ lowB (UInt8.ofNat n.val) ∧ lowB (UInt8.ofNat n.val) ≤ 255) ∧
  ((48 ≤ (UInt8.ofNat n.val).toNat ∧ (UInt8.ofNat n.val).toNat ≤ 57 ∧ Ie.dig (UInt8.ofNat n.val) = (UInt8.ofNat n.val).toNat - 48) ∨ (¬ (48 ≤ (UInt8.ofNat n.val).toNat ∧ (UInt8.ofNat n.val).toNat ≤ 57) ∧ (UInt8.ofNat n.val).toNat ≠ 95 ∧ 97 ≤ lowB (UInt8.ofNat n.val) ∧ lowB (UInt8.ofNat n.val) ≤ 102 ∧ (Ie.dig (UInt8.ofNat n.val) : Int) = lowB (UInt8.ofNat n.val) - 87) ∨
  (¬ (48 ≤ (UInt8.ofNat n.val).toNat ∧ (UInt8.ofNat n.val).toNat ≤ 57) ∧ (UInt8.ofNat n.val).toNat ≠ 95 ∧ 103 ≤ lowB (UInt8.ofNat n.val) ∧ lowB (UInt8.ofNat n.val) ≤ 122 ∧ 16 ≤ Ie.dig (UInt8.ofNat n.val)) ∨ (¬ (48 ≤ (UInt8.ofNat n.val).toNat ∧ (UInt8.ofNat n.val).toNat ≤ 57) ∧ ¬ (97 ≤ lowB (UInt8.ofNat n.val) ∧ lowB (UInt8.ofNat n.val) ≤ 122) ∧ 16 ≤ Ie.dig (UInt8.ofNat n.val))):=by decide +kernel
 intro c
 have h:=key ⟨c.toNat,c.toNat_lt⟩
 simpa using h
theorem lower_any (c : UInt8) (w : World) : Calls Tryz.prog 323 #[.int .u8 c.toNat] w fun e w' => e = .returned (.int .u8 (lowB c)) ∧ w' = w:=by
 go_enter Tryz.func323,Tryz.ntmps323
 go_wp2_with fail
 go_ret
 exact ⟨rfl,rfl⟩
def PuPost (w : World) (r : Ie.PR) (e : Ending) (w' : World) : Prop:=e = .returned (.tuple #[.int .u64 (Ie.prV r),prE r]) ∧ Below w.heap.size w w'
theorem bytes_below (w : World) (t : ByteArray) (e : TypeId) : Below w.heap.size w (Lib.bytesWorld w e t) :=
 ⟨rfl,rfl,rfl,by rw [Lib.bytesWorld_size]; omega,fun k hk => Lib.bytesWorld_at_old w e t k hk⟩
theorem pu_empty (b : Int) (w : World) : Calls Tryz.prog 310 #[.string ⟨#[]⟩, .int .i64 b, .int .i64 63] w (PuPost w .syn):=by
 have e0 : ((⟨#[]⟩ : ByteArray).toList == []) = true:=lit_yes rfl
 go_enter Tryz.func310,Tryz.ntmps310
 go_wp2_with fail
 go_ret2
 exact ⟨rfl,Below.refl _ _⟩
end
end Go.Proofs.YthekfpgegiffoaaGreatDoor
