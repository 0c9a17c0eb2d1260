/- What is proved: what stands behind a sign, operands, expressions are read as the document says, so deep. (and what stands with it) -/
import Derived.Test.YthekfpgegiffoaaGreatDoorQf
import Derived.Test.YthekfpgegiffoaaGreatDoorQe
import Derived.Deep.QuietTactic
import Derived.BigQuiet
import Derived.Test.YthekfpgegiffoaaGreatDoorQb
import Derived.Laws.OwnMore
import Derived.Tactics
import Derived.Deep.AppendLies
set_option linter.unusedSimpArgs false
set_option linter.unusedVariables false
set_option maxHeartbeats 16000000
set_option maxRecDepth 100000
namespace Go.Proofs.YthekfpgegiffoaaGreatDoor
section
open Go.RowKit Go.Shelf
open Ie (E Rd)
def Ie.behindP (s : ByteArray) (o e : Rd) : Rd:=fun l =>
 if isUn s then
  match o l with
  | none => none
  | some (x,l') => some (.un s x,l')
 else if s = sLp then shut sRp (e l)
 else none
theorem Ie.shut_yes {s : ByteArray} {x : E} {l : List K} (h : Ie.bg s l = true) : Ie.shut s (some (x,l)) = some (x,l.tail):=by
 cases l with
 | nil => cases h
 | cons t r => exact if_pos h
theorem Ie.shut_no {s : ByteArray} {x : E} {l : List K} (h : Ie.bg s l = false) : Ie.shut s (some (x,l)) = none:=by
 cases l with
 | nil => rfl
 | cons t r => exact if_neg (by rw [show Ie.isS t s = false from h]; decide)
theorem behind_any (s : ByteArray) (depth : Int) (o e : Rd) (HO : Reads 253 [.int .i64 depth] o) (HE : Reads 190 [.int .i64 depth] e) :
  Reads 281 [.string s, .int .i64 depth] (Ie.behindP s o e):=by
 intro R B l b er w hG hR hBw hRS hb hT
 have hRw : R < w.heap.size:=by obtain ⟨_,h1,_⟩:=hRS; exact rdr_lt h1
 by_cases hu : Ie.isUn s = true
 ·have K1:=Lib.hid (HO R B l b er w hG hR hBw hRS hb hT)
  have hsp : Ie.behindP s o e l = match o l with | none => none | some (x,l') => some (.un s x,l'):=if_pos hu
  have HSP:=Lib.hid hsp
  clear HO HE hG hRS hb hT hsp
  have fin : ∀ w2 v l' b' e',Fb R w w2 → RS w2 R B l' b' e' → IsIf v → ((∃ T,o l = some (T,l') ∧ b' = b ∧ e' = (if T.isBad then 91 else er) ∧ Ex w2 (fun g => w.heap.size ≤ g ∧ g < w2.heap.size) T v) ∨ (o l = none ∧ l' = [] ∧ b' = true)) →
    RdPost R B (Ie.behindP s o e l) b er w (.returned (.iface 441 (.agg #[.string s,v]))) w2:=fun w2 v l' b' e' hF hR' hv h => by
   refine ⟨_,l',b',e',rfl,hF,hR',⟨_,_,rfl⟩,?_⟩
   rcases h with ⟨T,hT,rfl,rfl,hE⟩ | ⟨hN,rfl,rfl⟩
   ·exact .inl ⟨.un s T,by rw [HSP.out,hT],rfl,rfl, .un s T v hE⟩
   ·exact .inr ⟨by rw [HSP.out,hN],rfl,rfl⟩
  have FIN:=Lib.hid fin
  clear fin
  have hu4 : s = Ie.sAdd ∨ s = Ie.sSub ∨ s = Ie.sNot ∨ s = Ie.sTil:=by
   unfold Ie.isUn at hu
   simp only [Bool.or_eq_true,decide_eq_true_iff] at hu
   rcases hu with ((h | h) | h) | h
   ·exact .inl h
   ·exact .inr (.inl h)
   ·exact .inr (.inr (.inl h))
   ·exact .inr (.inr (.inr h))
  clear hu
  rcases hu4 with hs | hs | hs | hs
  ·have e0 : (s.toList == [43]) = true:=lit_yes hs
   have e1 : (s.toList == [45]) = false:=lit_no (by rw [hs]; decide)
   have e2 : (s.toList == [33]) = false:=lit_no (by rw [hs]; decide)
   have e3 : (s.toList == [126]) = false:=lit_no (by rw [hs]; decide)
   clear hs
   go_enter Tryz.func281,Tryz.ntmps281
   go_wp2_with fail
   refine K1.out.mono ?_
   rintro en w2 ⟨v,l2,b2,e2,rfl,hF2,hRS2,hIf2,hsp2⟩
   have HX:=Lib.hid (FIN.out w2 v l2 b2 e2 hF2 hRS2 hIf2 hsp2)
   clear hF2 hRS2 hsp2
   obtain ⟨vt,vp,rfl⟩:=hIf2
   go_wp2_with fail
   go_ret
   exact HX.out
  ·have e0 : (s.toList == [43]) = false:=lit_no (by rw [hs]; decide)
   have e1 : (s.toList == [45]) = true:=lit_yes hs
   have e2 : (s.toList == [33]) = false:=lit_no (by rw [hs]; decide)
   have e3 : (s.toList == [126]) = false:=lit_no (by rw [hs]; decide)
   clear hs
   go_enter Tryz.func281,Tryz.ntmps281
   go_wp2_with fail
   refine K1.out.mono ?_
   rintro en w2 ⟨v,l2,b2,e2,rfl,hF2,hRS2,hIf2,hsp2⟩
   have HX:=Lib.hid (FIN.out w2 v l2 b2 e2 hF2 hRS2 hIf2 hsp2)
   clear hF2 hRS2 hsp2
   obtain ⟨vt,vp,rfl⟩:=hIf2
   go_wp2_with fail
   go_ret
   exact HX.out
  ·have e0 : (s.toList == [43]) = false:=lit_no (by rw [hs]; decide)
   have e1 : (s.toList == [45]) = false:=lit_no (by rw [hs]; decide)
   have e2 : (s.toList == [33]) = true:=lit_yes hs
   have e3 : (s.toList == [126]) = false:=lit_no (by rw [hs]; decide)
   clear hs
   go_enter Tryz.func281,Tryz.ntmps281
   go_wp2_with fail
   refine K1.out.mono ?_
   rintro en w2 ⟨v,l2,b2,e2,rfl,hF2,hRS2,hIf2,hsp2⟩
   have HX:=Lib.hid (FIN.out w2 v l2 b2 e2 hF2 hRS2 hIf2 hsp2)
   clear hF2 hRS2 hsp2
   obtain ⟨vt,vp,rfl⟩:=hIf2
   go_wp2_with fail
   go_ret
   exact HX.out
  ·have e0 : (s.toList == [43]) = false:=lit_no (by rw [hs]; decide)
   have e1 : (s.toList == [45]) = false:=lit_no (by rw [hs]; decide)
   have e2 : (s.toList == [33]) = false:=lit_no (by rw [hs]; decide)
   have e3 : (s.toList == [126]) = true:=lit_yes hs
   clear hs
   go_enter Tryz.func281,Tryz.ntmps281
   go_wp2_with fail
   refine K1.out.mono ?_
   rintro en w2 ⟨v,l2,b2,e2,rfl,hF2,hRS2,hIf2,hsp2⟩
   have HX:=Lib.hid (FIN.out w2 v l2 b2 e2 hF2 hRS2 hIf2 hsp2)
   clear hF2 hRS2 hsp2
   obtain ⟨vt,vp,rfl⟩:=hIf2
   go_wp2_with fail
   go_ret
   exact HX.out
 ·have hsp : Ie.behindP s o e l = if s = Ie.sLp then Ie.shut Ie.sRp (e l) else none:=if_neg hu
  have h0 : ¬ s = Ie.sAdd:=fun h => hu (by rw [h]; decide)
  have h1 : ¬ s = Ie.sSub:=fun h => hu (by rw [h]; decide)
  have h2 : ¬ s = Ie.sNot:=fun h => hu (by rw [h]; decide)
  have h3 : ¬ s = Ie.sTil:=fun h => hu (by rw [h]; decide)
  have e0 : (s.toList == [43]) = false:=lit_no h0
  have e1 : (s.toList == [45]) = false:=lit_no h1
  have e2 : (s.toList == [33]) = false:=lit_no h2
  have e3 : (s.toList == [126]) = false:=lit_no h3
  clear hu h0 h1 h2 h3
  by_cases h4 : s = Ie.sLp
  ·have e4 : (s.toList == [40]) = true:=lit_yes h4
   rw [if_pos h4] at hsp
   have HSP:=Lib.hid hsp
   have K1:=Lib.hid (HE R B l b er w hG hR hBw hRS hb hT)
   clear hsp h4 HO HE hG hRS hb hT
   go_enter Tryz.func281,Tryz.ntmps281
   go_wp2_with fail
   refine K1.out.mono ?_
   rintro en w2 ⟨v,l2,b2,e2,rfl,hF2,hRS2,hIf2,hsp2⟩
   have K2:=Lib.hid (must_any R B Ie.sRp l2 b2 e2 w2 hRS2)
   have HF2:=Lib.hid hF2
   have HIF:=Lib.hid hIf2
   have HS2:=Lib.hid hsp2
   clear hF2 hRS2 hIf2 hsp2
   go_wp2_with fail
   refine K2.out.mono ?_
   rintro en w3 ⟨rfl,hF3,hRS3⟩
   have H3:=Lib.hid (And.intro hF3 hRS3)
   clear hF3 hRS3
   go_wp2_with fail
   go_ret
   refine ⟨_,_,_,_,rfl,HF2.out.trans H3.out.1,H3.out.2,HIF.out,?_⟩
   rcases HS2.out with ⟨T,hT,rfl,rfl,hE⟩ | ⟨hN,rfl,rfl⟩
   ·cases hq : Ie.bg Ie.sRp l2 with
    | true => exact .inl ⟨T,by rw [HSP.out,hT]; exact Ie.shut_yes hq,rfl,rfl,hE.keep fun g hg => ⟨⟨hg.1,Nat.lt_of_lt_of_le hg.2 H3.out.1.size⟩,H3.out.1.block g hg.2 (by omega)⟩⟩
    | false => exact .inr ⟨by rw [HSP.out,hT]; exact Ie.shut_no hq,rfl,rfl⟩
   ·exact .inr ⟨by rw [HSP.out,hN]; rfl,rfl,rfl⟩
  ·have e4 : (s.toList == [40]) = false:=lit_no h4
   rw [if_neg h4] at hsp
   have HSP:=Lib.hid hsp
   have K1:=Lib.hid (breaks_any R B l b er w hRS)
   clear hsp h4 HO HE hG hRS hb hT
   go_enter Tryz.func281,Tryz.ntmps281
   go_wp2_with fail
   refine K1.out.mono ?_
   rintro en w2 ⟨rfl,hF2,hRS2⟩
   have H3:=Lib.hid (And.intro hF2 hRS2)
   clear hF2 hRS2
   go_wp2_with fail
   go_ret
   exact ⟨_,_,_,_,rfl,H3.out.1,H3.out.2,⟨_,_,rfl⟩, .inr ⟨HSP.out,rfl,rfl⟩⟩
end
section
open Go.RowKit Go.Shelf
open Ie (E Rd)
def Ie.nv : Option Nat → Int
 | none => 0
 | some n => n
def Ie.ne : Option Nat → Int
 | none => 91
 | some _ => 0
def NumC (f : FuncId) (spec : List UInt8 → Option Nat) : Prop:=∀ (s : ByteArray) (w : World),Gv w → s.size ≤ 1000000 →
 Calls Tryz.prog f #[.string s] w fun e w' => e = .returned (.tuple #[.int .i64 (Ie.nv (spec s.data.toList)), .int .i64 (Ie.ne (spec s.data.toList))]) ∧ Below w.heap.size w w'
theorem Ie.ofNum_bad (q : Option Nat) (e : Int) : (if Ie.ne q = 0 then e else Ie.ne q) = (if (Ie.ofNum q).isBad = true then 91 else e):=by cases q <;> rfl
theorem Ex.ofNum (w : World) (ok : Nat → Prop) (q : Option Nat) : Ex w ok (Ie.ofNum q) (.iface 424 (.int .i64 (Ie.nv q))):=by
 cases q with
 | none => exact .bad
 | some n => exact .num n
theorem operand_deep (depth : Nat) (h1 : 60 < depth) (h2 : depth ≤ 1000) : Reads 253 [.int .i64 depth] (fun _ => none):=by
 intro R B l b e w hG hR hBw hRS hb hT
 obtain ⟨lv,hbx,ad,cap,rfl,hc1,hc2, -⟩:=id hRS
 obtain ⟨c0, -, -⟩:=box3v hbx
 have K1:=Lib.hid (breaks_any R B l b e w hRS)
 obtain ⟨n,hn⟩ : ∃ n,n = l.length:=⟨_,rfl⟩
 rw [← hn] at c0
 have d1 : (60 : Int) < depth:=by omega
 have fin : ∀ w2,Fb R w w2 → RS w2 R B [] true e → RdPost R B none b e w (.returned atom0) w2:=fun w2 hF hR' => ⟨_,_,_,_,rfl,hF,hR',⟨_,_,rfl⟩, .inr ⟨rfl,rfl,rfl⟩⟩
 have FIN:=Lib.hid fin
 clear hG hRS hb hT hbx hn fin hc1 hc2
 rcases Nat.eq_zero_or_pos n with hz | hz
 ·subst hz
  go_enter Tryz.func253,Tryz.ntmps253
  go_wp2_with fail
  refine K1.out.mono ?_
  rintro en w2 ⟨rfl,hF2,hRS2⟩
  have H:=Lib.hid (FIN.out w2 hF2 hRS2)
  clear hF2 hRS2
  go_wp2_with fail
  go_ret
  exact H.out
 ·have zn : ¬ (n : Int) = 0:=by omega
  go_enter Tryz.func253,Tryz.ntmps253
  go_wp2_with fail
  refine K1.out.mono ?_
  rintro en w2 ⟨rfl,hF2,hRS2⟩
  have H:=Lib.hid (FIN.out w2 hF2 hRS2)
  clear hF2 hRS2
  go_wp2_with fail
  go_ret
  exact H.out
theorem operand_any (depth : Nat) (h1 : depth ≤ 60) (o e : Rd) (HN : NumC 279 Ie.number) (HQ : NumC 280 Ie.quote) (HBH : ∀ s,Reads 281 [.string s, .int .i64 ((depth : Int) + 1)] (Ie.behindP s o e)) :
  Reads 253 [.int .i64 depth] (Ie.operS o e):=by
 intro R B l b er w hG hR hBw hRS hb hT
 have d1 : (depth : Int) ≤ 60:=by omega
 have d2 : (0 : Int) ≤ depth:=by omega
 cases l with
 | nil =>
  obtain ⟨lv,hbx,ad,cap,rfl,hc1,hc2, -⟩:=id hRS
  obtain ⟨c0, -, -⟩:=box3v hbx
  simp only [List.length_nil] at c0
  have K1:=Lib.hid (breaks_any R B [] b er w hRS)
  clear hG hRS hb hT hbx hc1 hc2
  go_enter Tryz.func253,Tryz.ntmps253
  go_wp2_with fail
  refine K1.out.mono ?_
  rintro en w2 ⟨rfl,hF2,hRS2⟩
  have H:=Lib.hid (And.intro hF2 hRS2)
  clear hF2 hRS2
  go_wp2_with fail
  go_ret
  exact ⟨_,_,_,_,rfl,H.out.1,H.out.2,⟨_,_,rfl⟩, .inr ⟨rfl,rfl,rfl⟩⟩
 | cons t r =>
  have hbf : b = false:=by
   cases b with
   | true => have:=hb rfl; cases this
   | false => rfl
  subst hbf
  obtain ⟨lv,hbx,hLv⟩:=id hRS
  obtain ⟨g,og,cap,rfl,hc1,hc2,⟨hg,hgB⟩,hK,htl⟩:=hLv.cons
  unfold maxLen at hc2
  obtain ⟨n,hn⟩ : ∃ n,n = r.length:=⟨_,rfl⟩
  rw [← hn] at hbx hc1 htl
  obtain ⟨c0, -, -⟩:=box3v hbx
  have f0 : w.frozen? ⟨R,0,none⟩ = false:=Lib.frozen_of_heap hbx 0
  have hRw:=rdr_lt hbx
  have ht1 : t.text.size ≤ 1000000:=hT.2 t (by simp)
  have HT:=Lib.hid hT.tail
  have HG:=Lib.hid hG
  have HRB:=Lib.hid hBw
  obtain ⟨kd,tx,tf,fr,en,bl⟩:=t
  dsimp only at ht1
  have fin : ∀ (W2 : World) (lv2 : Value),W2 = (w.setCell ⟨R,0,none⟩ lv2).alloc (.cells #[.int .i64 kd, .string tx, .int .i64 tf, .int .i64 fr, .int .i64 en, .bool bl] 63) → Lv w R B lv2 r →
    RS W2 R B r false er ∧ Fb R w W2 ∧ W2.cell? ⟨w.heap.size,0,none⟩ = some (.int .i64 kd) ∧ W2.cell? ⟨w.heap.size,1,none⟩ = some (.string tx) ∧ W2.heap.size = w.heap.size + 1:=fun W2 lv2 e h => by
   have hs1 : (w.setCell ⟨R,0,none⟩ lv2).heap.size = w.heap.size:=by simp [World.setCell]
   have hF1 : Fb R w (w.setCell ⟨R,0,none⟩ lv2):=(Fb.refl R w).set 0 _
   have hB1 : Below (w.setCell ⟨R,0,none⟩ lv2).heap.size (w.setCell ⟨R,0,none⟩ lv2) W2:=by rw [e]; exact Below.alloc (Below.refl _ _) (Nat.le_refl _) _
   have hb2 : W2.heap[w.heap.size]? = some (.cells #[.int .i64 kd, .string tx, .int .i64 tf, .int .i64 fr, .int .i64 en, .bool bl] 63 (0,0)):=by
    rw [e,← hs1]; exact heap_alloc_new _ _
   refine ⟨⟨lv2,below_heap hB1 (rdr_set0 hbx _),h.keep (hF1.then hB1)⟩,hF1.then hB1,?_,?_,by rw [e]; simp [World.setCell]⟩
   ·rw [Lib.cell_of_heap hb2 0]; rfl
   ·rw [Lib.cell_of_heap hb2 1]; rfl
  have FIN:=Lib.hid fin
  have HTL:=Lib.hid htl
  have HHN:=Lib.hid HN
  have HHQ:=Lib.hid HQ
  have HHB:=Lib.hid HBH
  have Hn:=Lib.hid hn
  obtain ⟨k0,k1,k2,k3,k4,k5⟩:=hK
  dsimp only at k0 k1 k2 k3 k4 k5
  have z0 : (0 : Int) ≤ n:=by omega
  have z1 : (0 : Int) < (n : Int) + 1:=by omega
  have z2 : ((n : Int) + 1 == 0) = false:=by rw [beq_eq_false_iff_ne]; omega
  clear hG hRS hLv hbx hb hT htl hn fin HN HQ HBH hBw
  -- what is left once the first is taken
  rcases Decidable.em (cap = 1) with rfl | hcap
  ·obtain rfl : n = 0:=by omega
   go_enter Tryz.func253,Tryz.ntmps253
   go_upto_region 5 with (fail)
   obtain ⟨W2,hW2⟩ : ∃ W2,W2 = (w.setCell ⟨R,0,none⟩ (.slice (some ⟨g,og,none⟩) 0 0)).alloc (.cells #[.int .i64 kd, .string tx, .int .i64 tf, .int .i64 fr, .int .i64 en, .bool bl] 63):=⟨_,rfl⟩
   rw [← hW2]
   obtain ⟨hRS2,hF2,q0,q1,hs2⟩:=FIN.out W2 _ hW2 (HTL.out 0 (by omega))
   have HRS2:=Lib.hid hRS2
   have HF2:=Lib.hid hF2
   clear hRS2 hF2 hW2
   by_cases h2 : kd = 2
   ·have hsp : Ie.operS o e (⟨kd,tx,tf,fr,en,bl⟩ :: r) = some (Ie.ofNum (Ie.number tx.data.toList),r):=if_pos h2
    have HSP:=Lib.hid hsp
    have K1:=Lib.hid (HHN.out tx W2 (HG.out.fb hR HF2.out HG.out.pos) ht1)
    obtain ⟨nq,hnq⟩ : ∃ nq,nq = Ie.number tx.data.toList:=⟨_,rfl⟩
    rw [← hnq] at K1 HSP
    obtain ⟨nv,hnv⟩ : ∃ nv,nv = Ie.nv nq:=⟨_,rfl⟩
    obtain ⟨ne,hne⟩ : ∃ ne,ne = Ie.ne nq:=⟨_,rfl⟩
    rw [← hnv,← hne] at K1
    have HNV:=Lib.hid hnv
    have HNE:=Lib.hid hne
    clear hsp hnq hnv hne
    go_wp2_with fail
    refine K1.out.mono ?_
    rintro en3 w3 ⟨rfl,hB3⟩
    have K2:=Lib.hid (atom_any R B r false er nv ne w3 (HRS2.out.keep hB3))
    have HF3:=Lib.hid (HF2.out.then hB3)
    clear hB3
    go_wp2_with fail
    refine K2.out.mono ?_
    rintro en4 w4 ⟨rfl,hF4,hRS4⟩
    have H4:=Lib.hid (And.intro hF4 hRS4)
    clear hF4 hRS4
    go_wp2_with fail
    go_ret
    refine ⟨_,r,false,_,rfl,HF3.out.trans H4.out.1,H4.out.2,⟨_,_,rfl⟩, .inl ⟨Ie.ofNum nq,HSP.out,rfl,?_,?_⟩⟩
    ·rw [HNE.out]; exact Ie.ofNum_bad nq er
    ·rw [HNV.out]; exact Ex.ofNum _ _ nq
   by_cases h3 : kd = 3
   ·have hsp : Ie.operS o e (⟨kd,tx,tf,fr,en,bl⟩ :: r) = some (Ie.ofNum (Ie.quote tx.data.toList),r):=(if_neg h2).trans (if_pos h3)
    have HSP:=Lib.hid hsp
    have K1:=Lib.hid (HHQ.out tx W2 (HG.out.fb hR HF2.out HG.out.pos) ht1)
    obtain ⟨nq,hnq⟩ : ∃ nq,nq = Ie.quote tx.data.toList:=⟨_,rfl⟩
    rw [← hnq] at K1 HSP
    obtain ⟨nv,hnv⟩ : ∃ nv,nv = Ie.nv nq:=⟨_,rfl⟩
    obtain ⟨ne,hne⟩ : ∃ ne,ne = Ie.ne nq:=⟨_,rfl⟩
    rw [← hnv,← hne] at K1
    have HNV:=Lib.hid hnv
    have HNE:=Lib.hid hne
    clear hsp hnq hnv hne
    go_wp2_with fail
    refine K1.out.mono ?_
    rintro en3 w3 ⟨rfl,hB3⟩
    have K2:=Lib.hid (atom_any R B r false er nv ne w3 (HRS2.out.keep hB3))
    have HF3:=Lib.hid (HF2.out.then hB3)
    clear hB3
    go_wp2_with fail
    refine K2.out.mono ?_
    rintro en4 w4 ⟨rfl,hF4,hRS4⟩
    have H4:=Lib.hid (And.intro hF4 hRS4)
    clear hF4 hRS4
    go_wp2_with fail
    go_ret
    refine ⟨_,r,false,_,rfl,HF3.out.trans H4.out.1,H4.out.2,⟨_,_,rfl⟩, .inl ⟨Ie.ofNum nq,HSP.out,rfl,?_,?_⟩⟩
    ·rw [HNE.out]; exact Ie.ofNum_bad nq er
    ·rw [HNV.out]; exact Ex.ofNum _ _ nq
   by_cases h4 : kd = 1
   ·have hsp : Ie.operS o e (⟨kd,tx,tf,fr,en,bl⟩ :: r) = some (.num 0,r):=(if_neg h2).trans ((if_neg h3).trans (if_pos h4))
    have HSP:=Lib.hid hsp
    clear hsp
    go_wp2_with fail
    go_ret
    refine ⟨_,r,false,er,rfl,HF2.out,HRS2.out,⟨_,_,rfl⟩, .inl ⟨_,?_,rfl,rfl, .num 0⟩⟩
    exact HSP.out
   by_cases h5 : kd = 5
   ·have hsp : Ie.operS o e (⟨kd,tx,tf,fr,en,bl⟩ :: r) = Ie.behindP tx o e r:=(if_neg h2).trans ((if_neg h3).trans ((if_neg h4).trans (if_pos h5)))
    have HSP:=Lib.hid hsp
    have K1:=Lib.hid (HHB.out tx R B r false er W2 (HG.out.fb hR HF2.out HG.out.pos) hR (by have:=HF2.out.size; have:=HRB.out; omega) HRS2.out (fun h => by cases h) HT.out)
    clear hsp
    go_wp2_with fail
    refine K1.out.mono ?_
    rintro en3 w3 ⟨v,l3,b3,e3,rfl,hF3,hRS3,hIf3,hsp3⟩
    have H3:=Lib.hid (And.intro hF3 (And.intro hRS3 (And.intro hIf3 hsp3)))
    clear hF3 hRS3 hIf3 hsp3
    go_wp2_with fail
    go_ret
    refine ⟨_,l3,b3,e3,rfl,HF2.out.trans H3.out.1,H3.out.2.1,H3.out.2.2.1,?_⟩
    rcases H3.out.2.2.2 with ⟨T,hT,hb,he,hE⟩ | ⟨hN,hl,hb⟩
    ·exact .inl ⟨T,HSP.out.trans hT,hb,he,hE.keep fun x hx => ⟨⟨by have:=hx.1; omega,hx.2⟩,rfl⟩⟩
    ·exact .inr ⟨HSP.out.trans hN,hl,hb⟩
   ·have hsp : Ie.operS o e (⟨kd,tx,tf,fr,en,bl⟩ :: r) = none:=(if_neg h2).trans ((if_neg h3).trans ((if_neg h4).trans (if_neg h5)))
    have HSP:=Lib.hid hsp
    have K1:=Lib.hid (breaks_any R B r false er W2 HRS2.out)
    clear hsp
    go_wp2_with fail
    refine K1.out.mono ?_
    rintro en3 w3 ⟨rfl,hF3,hRS3⟩
    have H3:=Lib.hid (And.intro hF3 hRS3)
    clear hF3 hRS3
    go_wp2_with fail
    go_ret
    exact ⟨_,_,_,_,rfl,HF2.out.trans H3.out.1,H3.out.2,⟨_,_,rfl⟩, .inr ⟨HSP.out,rfl,rfl⟩⟩
  ·go_enter Tryz.func253,Tryz.ntmps253
   go_upto_region 5 with (fail)
   obtain ⟨W2,hW2⟩ : ∃ W2,W2 = (w.setCell ⟨R,0,none⟩ (.slice (some ⟨g,og + 6,none⟩) n (cap - 1))).alloc (.cells #[.int .i64 kd, .string tx, .int .i64 tf, .int .i64 fr, .int .i64 en, .bool bl] 63):=⟨_,rfl⟩
   rw [← hW2]
   obtain ⟨hRS2,hF2,q0,q1,hs2⟩:=FIN.out W2 _ hW2 (HTL.out 6 (fun _ => rfl))
   have HRS2:=Lib.hid hRS2
   have HF2:=Lib.hid hF2
   clear hRS2 hF2 hW2
   by_cases h2 : kd = 2
   ·have hsp : Ie.operS o e (⟨kd,tx,tf,fr,en,bl⟩ :: r) = some (Ie.ofNum (Ie.number tx.data.toList),r):=if_pos h2
    have HSP:=Lib.hid hsp
    have K1:=Lib.hid (HHN.out tx W2 (HG.out.fb hR HF2.out HG.out.pos) ht1)
    obtain ⟨nq,hnq⟩ : ∃ nq,nq = Ie.number tx.data.toList:=⟨_,rfl⟩
    rw [← hnq] at K1 HSP
    obtain ⟨nv,hnv⟩ : ∃ nv,nv = Ie.nv nq:=⟨_,rfl⟩
    obtain ⟨ne,hne⟩ : ∃ ne,ne = Ie.ne nq:=⟨_,rfl⟩
    rw [← hnv,← hne] at K1
    have HNV:=Lib.hid hnv
    have HNE:=Lib.hid hne
    clear hsp hnq hnv hne
    go_wp2_with fail
    refine K1.out.mono ?_
    rintro en3 w3 ⟨rfl,hB3⟩
    have K2:=Lib.hid (atom_any R B r false er nv ne w3 (HRS2.out.keep hB3))
    have HF3:=Lib.hid (HF2.out.then hB3)
    clear hB3
    go_wp2_with fail
    refine K2.out.mono ?_
    rintro en4 w4 ⟨rfl,hF4,hRS4⟩
    have H4:=Lib.hid (And.intro hF4 hRS4)
    clear hF4 hRS4
    go_wp2_with fail
    go_ret
    refine ⟨_,r,false,_,rfl,HF3.out.trans H4.out.1,H4.out.2,⟨_,_,rfl⟩, .inl ⟨Ie.ofNum nq,HSP.out,rfl,?_,?_⟩⟩
    ·rw [HNE.out]; exact Ie.ofNum_bad nq er
    ·rw [HNV.out]; exact Ex.ofNum _ _ nq
   by_cases h3 : kd = 3
   ·have hsp : Ie.operS o e (⟨kd,tx,tf,fr,en,bl⟩ :: r) = some (Ie.ofNum (Ie.quote tx.data.toList),r):=(if_neg h2).trans (if_pos h3)
    have HSP:=Lib.hid hsp
    have K1:=Lib.hid (HHQ.out tx W2 (HG.out.fb hR HF2.out HG.out.pos) ht1)
    obtain ⟨nq,hnq⟩ : ∃ nq,nq = Ie.quote tx.data.toList:=⟨_,rfl⟩
    rw [← hnq] at K1 HSP
    obtain ⟨nv,hnv⟩ : ∃ nv,nv = Ie.nv nq:=⟨_,rfl⟩
    obtain ⟨ne,hne⟩ : ∃ ne,ne = Ie.ne nq:=⟨_,rfl⟩
    rw [← hnv,← hne] at K1
    have HNV:=Lib.hid hnv
    have HNE:=Lib.hid hne
    clear hsp hnq hnv hne
    go_wp2_with fail
    refine K1.out.mono ?_
    rintro en3 w3 ⟨rfl,hB3⟩
    have K2:=Lib.hid (atom_any R B r false er nv ne w3 (HRS2.out.keep hB3))
    have HF3:=Lib.hid (HF2.out.then hB3)
    clear hB3
    go_wp2_with fail
    refine K2.out.mono ?_
    rintro en4 w4 ⟨rfl,hF4,hRS4⟩
    have H4:=Lib.hid (And.intro hF4 hRS4)
    clear hF4 hRS4
    go_wp2_with fail
    go_ret
    refine ⟨_,r,false,_,rfl,HF3.out.trans H4.out.1,H4.out.2,⟨_,_,rfl⟩, .inl ⟨Ie.ofNum nq,HSP.out,rfl,?_,?_⟩⟩
    ·rw [HNE.out]; exact Ie.ofNum_bad nq er
    ·rw [HNV.out]; exact Ex.ofNum _ _ nq
   by_cases h4 : kd = 1
   ·have hsp : Ie.operS o e (⟨kd,tx,tf,fr,en,bl⟩ :: r) = some (.num 0,r):=(if_neg h2).trans ((if_neg h3).trans (if_pos h4))
    have HSP:=Lib.hid hsp
    clear hsp
    go_wp2_with fail
    go_ret
    refine ⟨_,r,false,er,rfl,HF2.out,HRS2.out,⟨_,_,rfl⟩, .inl ⟨_,?_,rfl,rfl, .num 0⟩⟩
    exact HSP.out
   by_cases h5 : kd = 5
   ·have hsp : Ie.operS o e (⟨kd,tx,tf,fr,en,bl⟩ :: r) = Ie.behindP tx o e r:=(if_neg h2).trans ((if_neg h3).trans ((if_neg h4).trans (if_pos h5)))
    have HSP:=Lib.hid hsp
    have K1:=Lib.hid (HHB.out tx R B r false er W2 (HG.out.fb hR HF2.out HG.out.pos) hR (by have:=HF2.out.size; have:=HRB.out; omega) HRS2.out (fun h => by cases h) HT.out)
    clear hsp
    go_wp2_with fail
    refine K1.out.mono ?_
    rintro en3 w3 ⟨v,l3,b3,e3,rfl,hF3,hRS3,hIf3,hsp3⟩
    have H3:=Lib.hid (And.intro hF3 (And.intro hRS3 (And.intro hIf3 hsp3)))
    clear hF3 hRS3 hIf3 hsp3
    go_wp2_with fail
    go_ret
    refine ⟨_,l3,b3,e3,rfl,HF2.out.trans H3.out.1,H3.out.2.1,H3.out.2.2.1,?_⟩
    rcases H3.out.2.2.2 with ⟨T,hT,hb,he,hE⟩ | ⟨hN,hl,hb⟩
    ·exact .inl ⟨T,HSP.out.trans hT,hb,he,hE.keep fun x hx => ⟨⟨by have:=hx.1; omega,hx.2⟩,rfl⟩⟩
    ·exact .inr ⟨HSP.out.trans hN,hl,hb⟩
   ·have hsp : Ie.operS o e (⟨kd,tx,tf,fr,en,bl⟩ :: r) = none:=(if_neg h2).trans ((if_neg h3).trans ((if_neg h4).trans (if_neg h5)))
    have HSP:=Lib.hid hsp
    have K1:=Lib.hid (breaks_any R B r false er W2 HRS2.out)
    clear hsp
    go_wp2_with fail
    refine K1.out.mono ?_
    rintro en3 w3 ⟨rfl,hF3,hRS3⟩
    have H3:=Lib.hid (And.intro hF3 hRS3)
    clear hF3 hRS3
    go_wp2_with fail
    go_ret
    exact ⟨_,_,_,_,rfl,HF2.out.trans H3.out.1,H3.out.2,⟨_,_,rfl⟩, .inr ⟨HSP.out,rfl,rfl⟩⟩
end
section
open Go.RowKit Go.Shelf
open Ie (E)
def Ie.Z (p : Int × Int) : Prop:=p.2 ≠ 0 → p.1 = 0
theorem Ie.Z_ite (c : Prop) [Decidable c] (p q : Int × Int) (hp : Ie.Z p) (hq : Ie.Z q) : Ie.Z (if c then p else q):=by
 split
 ·exact hp
 ·exact hq
theorem Ie.Z_ok (n : Int) : Ie.Z (n,0):=fun h => absurd rfl h
theorem Ie.Z_bad (e : Int) : Ie.Z (0,e):=fun _ => rfl
theorem Ie.two_zero (s : ByteArray) (a b : Int) : (Ie.two s a b).2 ≠ 0 → (Ie.two s a b).1 = 0:=by
 show Ie.Z (Ie.two s a b)
 unfold Ie.two
 repeat' (first | exact Ie.Z_ok _ | exact Ie.Z_bad _ | refine Ie.Z_ite _ _ _ ?_ ?_)
theorem Ie.comes_zero : ∀ x : E,(Ie.comes x).2 ≠ 0 → (Ie.comes x).1 = 0
 | .num n => fun h => absurd rfl h
 | .bad => fun h => absurd rfl h
 | .un s x => by
  unfold Ie.comes
  split
  ·intro _; rfl
  ·intro h; exact absurd rfl h
 | .bin s x y => by
  unfold Ie.comes
  split
  ·intro _; rfl
  ·split
   ·intro h; exact absurd rfl h
   ·split
    ·intro _; rfl
    ·exact Ie.two_zero _ _ _
 | .ask x y z => by
  unfold Ie.comes
  split
  ·intro _; rfl
  ·split
   ·exact Ie.comes_zero y
   ·exact Ie.comes_zero z
theorem Ie.comes_bin (s : ByteArray) (x y : E) : Ie.comes (.bin s x y) = if (Ie.comes x).2 ≠ 0 then (0,(Ie.comes x).2) else Ie.lnk s y (Ie.comes x).1:=rfl
theorem Ie.fold_take (x : E) (ys : List (ByteArray × E × Value)) (k : Nat) (s : ByteArray) (y : E) (u : Value) (h : ys[k]? = some (s,y,u)) : Ie.fold x (ys.take (k + 1)) = .bin s (Ie.fold x (ys.take k)) y:=by
 obtain ⟨hk,e⟩:=List.getElem?_eq_some_iff.1 h
 rw [List.take_succ_eq_append_getElem hk,e,Ie.fold_snoc]
theorem Ie.comes_stop (x : E) (ys : List (ByteArray × E × Value)) (k : Nat) (h : (Ie.comes (Ie.fold x (ys.take k))).2 ≠ 0) : ∀ m,k ≤ m → Ie.comes (Ie.fold x (ys.take m)) = Ie.comes (Ie.fold x (ys.take k)):=by
 intro m hm
 induction m with
 | zero => rw [Nat.le_zero.1 hm]
 | succ m ih =>
  rcases Nat.lt_or_ge m k with hlt | hge
  ·rw [show m + 1 = k by omega]
  ·cases hy : ys[m]? with
   | none =>
    rw [List.getElem?_eq_none_iff] at hy
    rw [List.take_of_length_le (by omega),← ih hge,List.take_of_length_le hy]
   | some q =>
    obtain ⟨s,y,u⟩:=q
    rw [Ie.fold_take x ys m s y u hy,Ie.comes_bin,ih hge,if_pos h]
    exact Prod.ext (Ie.comes_zero _ h).symm rfl
theorem chain_any (x : E) (v : Value) (ys : List (ByteArray × E × Value)) (b cap : Nat) (w : World) (hx : ∀ W,Below w.heap.size w W → VM v x W) (hc1 : ys.length ≤ cap) (hc2 : cap ≤ maxLen)
  (hc : ∀ (i : Nat) s y u,ys[i]? = some (s,y,u) → Ie.lvS s ≠ 0 ∧ w.cell? ⟨b,i * 2,none⟩ = some (.string s) ∧ w.cell? ⟨b,i * 2 + 1,none⟩ = some u)
  (hy : ∀ (i : Nat) s y u,ys[i]? = some (s,y,u) → ∀ W,Below w.heap.size w W → VM u y W) :
  Calls Tryz.prog 391 #[.agg #[v, .slice (some ⟨b,0,none⟩) ys.length cap]] w (ValPost (Ie.fold x ys) w):=by
 unfold maxLen at hc2
 obtain ⟨n,hn⟩ : ∃ n,n = ys.length:=⟨_,rfl⟩
 rw [← hn] at hc1 ⊢
 have hB1 : Below w.heap.size w (w.alloc (.cells #[v, .slice (some ⟨b,0,none⟩) n cap] 398)):=Below.alloc (Below.refl _ _) (Nat.le_refl _) _
 have hbx : (w.alloc (.cells #[v, .slice (some ⟨b,0,none⟩) n cap] 398)).heap[w.heap.size]? = some (.cells #[v, .slice (some ⟨b,0,none⟩) n cap] 398 (0,0)):=heap_alloc_new w _
 obtain ⟨t,p,f,rfl,hnn,hm,he,hcl⟩:=hx _ hB1
 have h0 : Ie.comes (Ie.fold x (ys.take 0)) = Ie.comes x:=by rw [List.take_zero]; rfl
 obtain ⟨P,hP⟩ : ∃ P : Nat → Int × Int,P = fun k => Ie.comes (Ie.fold x (ys.take k)):=⟨_,rfl⟩
 have HP:=Lib.hid hP
 have HM:=Lib.hid hcl
 have HB1:=Lib.hid hB1
 have HX:=Lib.hid hbx
 have HC:=Lib.hid hc
 have HY:=Lib.hid hy
 have Hn:=Lib.hid hn
 have H0:=Lib.hid (show (Ie.comes x) = P 0 by rw [hP]; exact h0.symm)
 clear hcl hB1 hbx hx hc hy hn h0 hP
 go_enter Tryz.func391,Tryz.ntmps391
 go_wp2_with fail
 refine HM.out.mono ?_
 rintro e w2 ⟨rfl,hB2⟩
 rw [H0.out]
 have hw2:=Below.then HB1.out hB2
 have hb2:=below_heap hB2 HX.out
 have HW2:=Lib.hid hw2
 have HX2:=Lib.hid hb2
 clear hB2 hw2 hb2 hnn hm he HM
 go_wp2_with fail
 go_loopw [4,5,6] (fun vn ve vi wr => ∃ k : Nat,vn = .int .i64 (P k).1 ∧ ve = .int .i64 (P k).2 ∧ vi = .int .i64 k ∧ k ≤ n ∧ Below w2.heap.size w2 wr) (fun _ _ vi _ => n - (intOf vi).toNat)
 case atStart => exact ⟨0,rfl,rfl,rfl,Nat.zero_le _,Below.refl _ _⟩
 case round =>
  obtain ⟨k,rfl,rfl,rfl,hk,hB⟩:=hrel
  obtain ⟨d0,d1⟩:=box2v (below_heap hB HX2.out)
  obtain ⟨ek,hek⟩ : ∃ ek,ek = (P k).2:=⟨_,rfl⟩
  obtain ⟨nk,hnk⟩ : ∃ nk,nk = (P k).1:=⟨_,rfl⟩
  rw [← hek,← hnk]
  have HE:=Lib.hid hek
  have HN:=Lib.hid hnk
  have HB:=Lib.hid hB
  clear hek hnk hB
  by_cases hlt : k < n
  ·by_cases h0 : ek = 0
   ·obtain ⟨⟨s,y,u⟩,hq⟩ : ∃ q,ys[k]? = some q:=⟨_,List.getElem?_eq_getElem (by rw [← Hn.out]; exact hlt)⟩
    obtain ⟨hs,c0,c1⟩:=HC.out k s y u hq
    have hBB:=Below.then HW2.out HB.out
    replace c0:=below_cof hBB c0
    replace c1:=below_cof hBB c1
    have KL:=Lib.hid (link_any s y u nk wr (fun W hW => HY.out k s y u hq W (Below.then hBB hW)) hs)
    have HQ:=Lib.hid hq
    clear hq hBB hs
    have z1 : (0 : Int) ≤ k:=by omega
    have z2 : (k : Int) < n:=by omega
    go_wp2_with fail
    refine KL.out.mono ?_
    rintro e w3 ⟨rfl,hB3⟩
    go_wp2_with fail
    go_roundw
    case rel =>
     refine ⟨k + 1,?_,?_,by go_num,by omega,Below.then HB.out hB3⟩
     ·have e1 : P (k + 1) = Ie.lnk s y nk:=by
       rw [HP.out]
       show Ie.comes (Ie.fold x (ys.take (k + 1))) = _
       rw [Ie.fold_take x ys k s y u HQ.out,Ie.comes_bin,HN.out,HP.out]
       refine if_neg fun h => h ?_
       have:=HE.out
       rw [HP.out,h0] at this
       exact this.symm
      rw [e1]
     ·have e1 : P (k + 1) = Ie.lnk s y nk:=by
       rw [HP.out]
       show Ie.comes (Ie.fold x (ys.take (k + 1))) = _
       rw [Ie.fold_take x ys k s y u HQ.out,Ie.comes_bin,HN.out,HP.out]
       refine if_neg fun h => h ?_
       have:=HE.out
       rw [HP.out,h0] at this
       exact this.symm
      rw [e1]
    case measure => simp [intOf]; omega
   ·go_wp2_with fail
    go_ret2
    refine ⟨?_,Below.then HW2.out HB.out⟩
    have e1 : Ie.comes (Ie.fold x ys) = P k:=by
     have h1:=HE.out
     rw [HP.out] at h1 ⊢
     have h2:=Ie.comes_stop x ys k (by rw [← h1]; exact h0) n hk
     rw [Hn.out,List.take_length] at h2
     exact h2
    rw [e1,← HE.out,← HN.out]
    rfl
  ·go_wp2_with fail
   go_ret2
   refine ⟨?_,Below.then HW2.out HB.out⟩
   have e1 : Ie.comes (Ie.fold x ys) = P k:=by
    rw [HP.out]
    show _ = Ie.comes (Ie.fold x (ys.take k))
    rw [show k = ys.length by rw [← Hn.out]; omega,List.take_length]
   rw [e1,← HE.out,← HN.out]
   rfl
theorem val_any {w0 : World} {N : Nat} {T : E} {v : Value} (h : Ex w0 (· < N) T v) : ∀ W,N ≤ W.heap.size → (∀ b,b < N → W.heap[b]? = w0.heap[b]?) → VM v T W:=by
 induction h with
 | num n => intro W _ _; exact ⟨_,_,_,rfl,fun _ => by kernel_rfl,fun _ => by kernel_rfl,fun _ => by kernel_rfl,vatom_any n W⟩
 | bad => intro W _ _; exact ⟨_,_,_,rfl,fun _ => by kernel_rfl,fun _ => by kernel_rfl,fun _ => by kernel_rfl,vatom_any 0 W⟩
 | un s x v _ ih =>
  intro W hN hk
  exact ⟨_,_,_,rfl,fun _ => by kernel_rfl,fun _ => by kernel_rfl,fun _ => by kernel_rfl,ahead_any s x v W fun W' hW => ih W' (Nat.le_trans hN hW.size) fun b hb => (hW.block b (by omega)).trans (hk b hb)⟩
 | ask x y z a b c _ _ _ i1 i2 i3 =>
  intro W hN hk
  have key : ∀ W',Below W.heap.size W W' → N ≤ W'.heap.size ∧ ∀ b,b < N → W'.heap[b]? = w0.heap[b]?:=fun W' hW => ⟨Nat.le_trans hN hW.size,fun b hb => (hW.block b (by omega)).trans (hk b hb)⟩
  exact ⟨_,_,_,rfl,fun _ => by kernel_rfl,fun _ => by kernel_rfl,fun _ => by kernel_rfl,choice_any x y z a b c W (fun W' hW => i1 W' (key W' hW).1 (key W' hW).2) (fun W' hW => i2 W' (key W' hW).1 (key W' hW).2) (fun W' hW => i3 W' (key W' hW).1 (key W' hW).2)⟩
 | chain x v ys b cap _ hb h1 h2 h3 _ ix iy =>
  intro W hN hk
  have key : ∀ W',Below W.heap.size W W' → N ≤ W'.heap.size ∧ ∀ b,b < N → W'.heap[b]? = w0.heap[b]?:=fun W' hW => ⟨Nat.le_trans hN hW.size,fun b hb => (hW.block b (by omega)).trans (hk b hb)⟩
  refine ⟨_,_,_,rfl,fun _ => by kernel_rfl,fun _ => by kernel_rfl,fun _ => by kernel_rfl,chain_any x v ys b cap W (fun W' hW => ix W' (key W' hW).1 (key W' hW).2) h1 h2 (fun i s y u hi => ?_) (fun i s y u hi W' hW => iy i s y u hi W' (key W' hW).1 (key W' hW).2)⟩
  obtain ⟨k0,k1,k2⟩:=h3 i s y u hi
  exact ⟨k0,(World.cell?_of_block (a:=⟨b,i * 2,none⟩) (hk b hb)).trans k1,(World.cell?_of_block (a:=⟨b,i * 2 + 1,none⟩) (hk b hb)).trans k2⟩
end
section
open Go.RowKit Go.Shelf
open Ie (E Rd)
theorem Ie.levels_none : ∀ k l,Ie.levels (fun _ => none) k l = none
 | 0,_ => rfl
 | k + 1,l => by
  show Ie.level _ _ l = none
  unfold Ie.level
  rw [Ie.levels_none k l]
theorem expression_deep (depth : Nat) (h2 : depth ≤ 1000) (HJ : Reads 223 [.int .i64 1, .int .i64 depth] (fun _ => none)) : Reads 190 [.int .i64 depth] (fun _ => none):=by
 intro R B l b e w hG hR hBw hRS hb hT
 have K1:=Lib.hid (HJ R B l b e w hG hR hBw hRS hb hT)
 clear hG hRS hb hT HJ
 go_enter Tryz.func190,Tryz.ntmps190
 go_wp2_with fail
 refine K1.out.mono ?_
 rintro en w2 ⟨v,l2,b2,e2,rfl,hF2,hRS2,hIf2,hsp2⟩
 rcases hsp2 with ⟨T,hT, -⟩ | ⟨-,rfl,rfl⟩
 ·cases hT
 ·have K2:=Lib.hid (takes_any R B Ie.sAsk [] true e2 w2 hRS2)
  have HF2:=Lib.hid hF2
  have HIF:=Lib.hid hIf2
  have hq : Ie.bg Ie.sAsk [] = false:=rfl
  rw [hq] at K2
  clear hF2 hRS2 hIf2 hq
  go_wp2_with fail
  refine K2.out.mono ?_
  rintro en w3 ⟨rfl,hF3,hRS3⟩
  have H3:=Lib.hid (And.intro hF3 hRS3)
  clear hF3 hRS3
  go_wp2_with fail
  go_ret
  exact ⟨_,_,_,_,rfl,HF2.out.trans H3.out.1,H3.out.2,HIF.out, .inr ⟨rfl,rfl,rfl⟩⟩
theorem expression_any (depth : Nat) (h2 : depth ≤ 1000) (o e : Rd) (hDJ : Ie.Dec (Ie.levels o 10)) (hDE : Ie.Dec e) (HJ : Reads 223 [.int .i64 1, .int .i64 depth] (Ie.levels o 10)) (HE : Reads 190 [.int .i64 ((depth : Int) + 1)] e) :
  Reads 190 [.int .i64 depth] (Ie.exprS o e):=by
 intro R B l b er w hG hR hBw hRS hb hT
 have hRw : R < w.heap.size:=by obtain ⟨_,h1,_⟩:=hRS; exact rdr_lt h1
 have K1:=Lib.hid (HJ R B l b er w hG hR hBw hRS hb hT)
 have d1 : (depth : Int) ≤ 1000:=by omega
 have d2 : (0 : Int) ≤ depth:=by omega
 have HG:=Lib.hid hG
 have HT:=Lib.hid hT
 have HHB:=Lib.hid hb
 have HHE:=Lib.hid HE
 have HHDJ:=Lib.hid hDJ
 have HHDE:=Lib.hid hDE
 obtain ⟨S,hS⟩ : ∃ S,S = Ie.exprS o e l:=⟨_,rfl⟩
 rw [← hS]
 have HS:=Lib.hid hS
 clear hG hRS hb hT HJ HE hDJ hDE hS
 go_enter Tryz.func190,Tryz.ntmps190
 go_wp2_with fail
 refine K1.out.mono ?_
 rintro en w2 ⟨v,l2,b2,e2,rfl,hF2,hRS2,hIf2,hsp2⟩
 have K2:=Lib.hid (takes_any R B Ie.sAsk l2 b2 e2 w2 hRS2)
 have HF2:=Lib.hid hF2
 have HSP2:=Lib.hid hsp2
 obtain ⟨vt,vp,rfl⟩:=hIf2
 obtain ⟨q,hq⟩ : ∃ q,q = Ie.bg Ie.sAsk l2:=⟨_,rfl⟩
 rw [← hq] at K2
 have HQ:=Lib.hid hq
 clear hF2 hRS2 hsp2 hq
 go_wp2_with fail
 refine K2.out.mono ?_
 rintro en w3 ⟨rfl,hF3,hRS3⟩
 have HF3:=Lib.hid (HF2.out.trans hF3)
 have HF23:=Lib.hid hF3
 have HRS3:=Lib.hid hRS3
 clear hF3 hRS3
 cases q with
 | false =>
  go_wp2_with fail
  go_ret
  refine ⟨_,_,_,_,rfl,HF3.out,HRS3.out,⟨_,_,rfl⟩,?_⟩
  rcases HSP2.out with ⟨T,hT,rfl,rfl,hE⟩ | ⟨hN,rfl,rfl⟩
  ·refine .inl ⟨T,?_,rfl,rfl,hE.keep fun g hg => ⟨⟨hg.1,Nat.lt_of_lt_of_le hg.2 HF23.out.size⟩,HF23.out.block g hg.2 (by omega)⟩⟩
   rw [HS.out]
   unfold Ie.exprS
   rw [hT]
   cases l2 with
   | nil => rfl
   | cons u r => exact if_neg (by rw [show Ie.isS u Ie.sAsk = false from HQ.out.symm]; decide)
  ·refine .inr ⟨?_,rfl,rfl⟩
   rw [HS.out]
   unfold Ie.exprS
   rw [hN]
 | true =>
  obtain ⟨T,hT,rfl,rfl,hE⟩ : ∃ T,Ie.levels o 10 l = some (T,l2) ∧ b2 = b ∧ e2 = (if T.isBad then 91 else er) ∧ Ex w2 (fun g => w.heap.size ≤ g ∧ g < w2.heap.size) T (.iface vt vp):=by
   rcases HSP2.out with h | ⟨_,rfl,_⟩
   ·exact h
   ·have:=HQ.out; cases this
  obtain ⟨u,r,rfl⟩ : ∃ u r,l2 = u :: r:=by
   cases l2 with
   | nil => have:=HQ.out; cases this
   | cons u r => exact ⟨u,r,rfl⟩
  have hqq : Ie.isS u Ie.sAsk = true:=HQ.out.symm
  obtain ⟨k,hk0,hk1,hk2⟩:=HHDJ.out l T _ hT
  have hTr : Tb r:=by
   have h:=HT.out.drop (k + 1)
   rw [← List.drop_drop,← hk2] at h
   exact h
  have hbb : b2 = true → r = []:=fun hbt => by
   have:=HHB.out hbt
   subst this
   simp at hk1
   omega
  have hsp : S = match Ie.shut Ie.sCol (e r) with | none => none | some (y,r2) => match e r2 with | none => none | some (z,r3) => some (.ask T y z,r3):=by
   rw [HS.out]
   unfold Ie.exprS
   rw [hT]
   exact if_pos hqq
  have HSP:=Lib.hid hsp
  have hRS3' : RS w3 R B r b2 (if T.isBad then 91 else er):=HRS3.out
  have h3s:=HF3.out.size
  have K3:=Lib.hid (HHE.out R B r b2 (if T.isBad then 91 else er) w3 (HG.out.fb hR HF3.out HG.out.pos) hR (by omega) hRS3' hbb hTr)
  have HEX:=Lib.hid (show Ex w3 (fun g => w.heap.size ≤ g ∧ g < w3.heap.size) T (.iface vt vp) from hE.keep fun g hg => ⟨⟨hg.1,Nat.lt_of_lt_of_le hg.2 HF23.out.size⟩,HF23.out.block g hg.2 (by omega)⟩)
  have HTr:=Lib.hid hTr
  have HBB:=Lib.hid hbb
  clear hT hE hqq hk0 hk1 hk2 hTr hbb hsp hRS3' h3s
  go_wp2_with fail
  refine K3.out.mono ?_
  rintro en w4 ⟨v4,l4,b4,e4,rfl,hF4,hRS4,hIf4,hsp4⟩
  obtain ⟨yt,yp,rfl⟩:=hIf4
  have K4:=Lib.hid (must_any R B Ie.sCol l4 b4 e4 w4 hRS4)
  have HF4:=Lib.hid hF4
  have HSP4:=Lib.hid hsp4
  clear hF4 hRS4 hsp4
  go_wp2_with fail
  refine K4.out.mono ?_
  rintro en w5 ⟨rfl,hF5,hRS5⟩
  have hw5:=(HF3.out.trans HF4.out).trans hF5
  -- behind the colon: read so far,or broken
  have hst : ∃ l5 b5 e5,RS w5 R B l5 b5 e5 ∧ ((∃ Y,Ie.shut Ie.sCol (e r) = some (Y,l5) ∧ b5 = b2 ∧ e5 = (if Y.isBad then 91 else if T.isBad then 91 else er) ∧ Ex w5 (fun g => w.heap.size ≤ g ∧ g < w5.heap.size) Y (.iface yt yp) ∧ Tb l5 ∧ (b5 = true → l5 = [])) ∨ (Ie.shut Ie.sCol (e r) = none ∧ l5 = [] ∧ b5 = true)):=by
   rcases HSP4.out with ⟨Y,hY,rfl,rfl,hEY⟩ | ⟨hN,rfl,rfl⟩
   ·cases hq : Ie.bg Ie.sCol l4 with
    | true =>
     rw [hq] at hRS5
     obtain ⟨m,hm0,hm1,hm2⟩:=HHDE.out r Y l4 hY
     have h3s:=HF3.out.size
     refine ⟨_,_,_,hRS5, .inl ⟨Y,by rw [hY]; exact Ie.shut_yes hq,rfl,rfl,hEY.keep fun g hg => ⟨⟨by have:=hg.1; omega,Nat.lt_of_lt_of_le hg.2 hF5.size⟩,hF5.block g hg.2 (by have:=hg.1; omega)⟩,?_,fun hbt => ?_⟩⟩
     ·show Tb l4.tail
      rw [hm2,List.tail_drop]
      exact HTr.out.drop _
     ·have:=HBB.out hbt
      subst this
      simp at hm1
      omega
    | false =>
     rw [hq] at hRS5
     exact ⟨_,_,_,hRS5, .inr ⟨by rw [hY]; exact Ie.shut_no hq,rfl,rfl⟩⟩
   ·exact ⟨_,_,_,hRS5, .inr ⟨by rw [hN]; rfl,rfl,rfl⟩⟩
  obtain ⟨l5,b5,e5,hRS5',hst⟩:=hst
  have HST:=Lib.hid hst
  have hT5 : Tb l5:=by
   rcases hst with ⟨_,_,_,_,_,h,_⟩ | ⟨_,rfl,_⟩
   ·exact h
   ·exact ⟨by simp,fun t ht => by simp at ht⟩
  have hb5 : b5 = true → l5 = []:=by
   rcases hst with ⟨_,_,_,_,_,_,h⟩ | ⟨_,rfl,_⟩
   ·exact h
   ·exact fun _ => rfl
  have h5s:=hw5.size
  have K5:=Lib.hid (HHE.out R B l5 b5 e5 w5 (HG.out.fb hR hw5 HG.out.pos) hR (by omega) hRS5' hb5 hT5)
  have HF5:=Lib.hid hF5
  have HW5:=Lib.hid hw5
  clear hF5 hRS5 hRS5' hst hT5 hb5 h5s hw5
  go_wp2_with fail
  refine K5.out.mono ?_
  rintro en w6 ⟨v6,l6,b6,e6,rfl,hF6,hRS6,hIf6,hsp6⟩
  obtain ⟨zt,zp,rfl⟩:=hIf6
  have HF6:=Lib.hid hF6
  have HRS6:=Lib.hid hRS6
  have HSP6:=Lib.hid hsp6
  clear hF6 hRS6 hsp6
  go_wp2_with fail
  go_ret
  refine ⟨_,l6,b6,e6,rfl,HW5.out.trans HF6.out,HRS6.out,⟨_,_,rfl⟩,?_⟩
  rcases HST.out with ⟨Y,hY,rfl,rfl,hEY,_,_⟩ | ⟨hN,rfl,rfl⟩
  ·rcases HSP6.out with ⟨Z,hZ,rfl,rfl,hEZ⟩ | ⟨hN,rfl,rfl⟩
   ·refine .inl ⟨.ask T Y Z,by rw [HSP.out,hY]; dsimp only; rw [hZ],rfl,?_, .ask T Y Z _ _ _ ?_ ?_ ?_⟩
    ·show _ = if (T.isBad || (Y.isBad || Z.isBad)) = true then _ else _
     cases T.isBad <;> cases Y.isBad <;> cases Z.isBad <;> rfl
    ·refine HEX.out.keep fun g hg => ?_
     have h4:=HF4.out.size
     have h5:=HF5.out.size
     have h6:=HF6.out.size
     exact ⟨⟨hg.1,by omega⟩,(HF6.out.block g (by omega) (by omega)).trans ((HF5.out.block g (by omega) (by omega)).trans (HF4.out.block g hg.2 (by omega)))⟩
    ·exact hEY.keep fun g hg => ⟨⟨hg.1,Nat.lt_of_lt_of_le hg.2 HF6.out.size⟩,HF6.out.block g hg.2 (by omega)⟩
    ·exact hEZ.keep fun g hg => ⟨⟨by have:=hg.1; have:=HW5.out.size; omega,hg.2⟩,rfl⟩
   ·exact .inr ⟨by rw [HSP.out,hY]; dsimp only; rw [hN],rfl,rfl⟩
  ·rcases HSP6.out with ⟨Z,hZ, -⟩ | ⟨_,rfl,rfl⟩
   ·rw [HHDE.out.nil] at hZ; cases hZ
   ·exact .inr ⟨by rw [HSP.out,hN],rfl,rfl⟩
theorem joined_all (o : Rd) (depth : Nat) (hdep : depth ≤ 1000) (hD : Ie.Dec o) (HO : Reads 223 [.int .i64 11, .int .i64 depth] o) : ∀ k,k ≤ 10 → Reads 223 [.int .i64 ((11 - k : Nat) : Int), .int .i64 depth] (Ie.levels o k)
 | 0,_ => HO
 | k + 1,hk => by
  have ih:=joined_all o depth hdep hD HO k (by omega)
  have h:=joined_step (10 - k) depth (Ie.levels o k) (by omega) (by omega) hdep (Ie.levels_dec hD k) (by rw [show (((10 - k : Nat) : Int) + 1) = ((11 - k : Nat) : Int) by omega]; exact ih)
  rw [show 11 - (k + 1) = 10 - k by omega]
  exact h
theorem reads_all (HN : NumC 279 Ie.number) (HQ : NumC 280 Ie.quote) : ∀ d,d ≤ 61 → Reads 253 [.int .i64 ((61 - d : Nat) : Int)] (Ie.oper d) ∧ Reads 190 [.int .i64 ((61 - d : Nat) : Int)] (Ie.expr d)
 | 0,_ => by
  have ho:=operand_deep 61 (by decide) (by decide)
  refine ⟨ho,?_⟩
  have hj:=joined_all (fun _ => none) 61 (by decide) (fun _ _ _ h => by cases h) (by
   intro R B l b e w hG hR hBw hRS hb hT
   exact joined_base 0 61 ho R B l b e w hG hR hBw hRS hb hT) 10 (Nat.le_refl _)
  refine expression_deep 61 (by decide) ?_
  rw [show Ie.levels (fun _ => none) 10 = fun _ => none from funext fun l => Ie.levels_none 10 l] at hj
  exact hj
 | d + 1,hd => by
  obtain ⟨io,ie⟩:=reads_all HN HQ d (by omega)
  have hdd:=Ie.both_dec d
  have hd1:=Ie.both_dec (d + 1)
  have e1 : (((61 - (d + 1) : Nat) : Int) + 1) = ((61 - d : Nat) : Int):=by omega
  have ho : Reads 253 [.int .i64 ((61 - (d + 1) : Nat) : Int)] (Ie.oper (d + 1)) :=
   operand_any (61 - (d + 1)) (by omega) (Ie.oper d) (Ie.expr d) HN HQ fun s => by rw [e1]; exact behind_any s _ (Ie.oper d) (Ie.expr d) io ie
  refine ⟨ho,?_⟩
  have hj:=joined_all (Ie.oper (d + 1)) (61 - (d + 1)) (by omega) hd1.1 (joined_base (d + 1) (61 - (d + 1)) ho) 10 (Nat.le_refl _)
  exact expression_any (61 - (d + 1)) (by omega) (Ie.oper (d + 1)) (Ie.expr d) (Ie.levels_dec hd1.1 10) hdd.2 hj (by rw [e1]; exact ie)
end
section
open Go.RowKit Go.Shelf
open Ie (E Rd)
theorem heap_alloc2 (w : World) (o o' : Obj) : ((w.alloc o).alloc o').heap[w.heap.size + 1]? = some o':=by
 have h:=heap_alloc_new (w.alloc o) o'
 rw [World.size_alloc] at h
 exact h
theorem Ie.inLine_take (l : List K) (k : Nat) (t : K) (h : l[k]? = some t) : Ie.inLine (l.take (k + 1)) = Ie.inLine (l.take k) ++ if t.kind = 7 then [] else [t]:=by
 obtain ⟨hk,e⟩:=List.getElem?_eq_some_iff.1 h
 unfold Ie.inLine
 rw [List.take_succ_eq_append_getElem hk,List.filter_append,e]
 by_cases h7 : t.kind = 7 <;> simp [h7]
theorem Ie.inLine_len (l : List K) : (Ie.inLine l).length ≤ l.length:=List.length_filter_le _ _
def LinePost (w : World) (l : List K) (e : Ending) (w' : World) : Prop:=∃ u,e = .returned u ∧ w'.ownsRow w.heap.size 63 6 u (Ie.inLine l).length (ksCells (Ie.inLine l)) ∧ Below w.heap.size w w'
theorem inLine_any (v : Value) (l : List K) (w : World) (hv : Ks w v l) (hl : l.length ≤ 1000000) : Calls Tryz.prog 189 #[v] w (LinePost w l):=by
 obtain ⟨i0,hi,hz0,hz1,hz2⟩:=info_parts infoTok
 obtain ⟨ad,cap,rfl,h1,h2, -⟩:=id hv
 obtain ⟨n,hn⟩ : ∃ n,n = l.length:=⟨_,rfl⟩
 rw [← hn] at hv h1 hl
 have HV:=Lib.hid hv
 have Hn:=Lib.hid hn
 rw [← hn]
 clear hv hn h1 h2
 go_enter Tryz.func189,Tryz.ntmps189
 go_wp2_with fail
 go_loopw [3,8] (fun o a wr => ∃ (k : Nat),a = .int .i64 k ∧ k ≤ n ∧ wr.ownsRow w.heap.size 63 6 o (Ie.inLine (l.take k)).length (ksCells (Ie.inLine (l.take k))) ∧ Below w.heap.size w wr) (fun _ a _ => n - (intOf a).toNat)
 case atStart => exact ⟨0,rfl,Nat.zero_le _,⟨by simp [Ie.inLine,ksCells], .inl ⟨rfl,by simp [Ie.inLine]⟩⟩,Below.refl _ _⟩
 case round =>
  obtain ⟨k,rfl,hk,hrow,hB⟩:=hrel
  by_cases hlt : k < n
  ·obtain ⟨t,ht⟩ : ∃ t,l[k]? = some t:=⟨_,List.getElem?_eq_getElem (by rw [← Hn.out]; exact hlt)⟩
   obtain ⟨g,o,rfl, -, -, -,hg,hc⟩:=(HV.out.below hB).cells (by rw [← Hn.out]; omega)
   obtain ⟨d0,d1,d2,d3,d4,d5⟩:=hc k t ht
   have HT:=Lib.hid (Ie.inLine_take l k t ht)
   have hml : (Ie.inLine (l.take k)).length ≤ k:=Nat.le_trans (Ie.inLine_len _) (by rw [List.length_take]; omega)
   have HB:=Lib.hid hB
   have hbs:=hB.size
   obtain ⟨kd,tx,f,fr,en,bl⟩:=t
   dsimp only at d0 d1 d2 d3 d4 d5
   obtain ⟨m,hm⟩ : ∃ m,m = (Ie.inLine (l.take k)).length:=⟨_,rfl⟩
   obtain ⟨cs,hcs⟩ : ∃ cs,cs = ksCells (Ie.inLine (l.take k)):=⟨_,rfl⟩
   rw [← hm] at hml
   rw [← hcs,← hm] at hrow
   have HM:=Lib.hid hm
   have HCS:=Lib.hid hcs
   have HROW:=Lib.hid hrow
   clear ht hB hcs hm hc hrow
   have z1 : (0 : Int) ≤ k:=by omega
   have z2 : (k : Int) < n:=by omega
   by_cases h7 : kd = 7
   ·have HT7:=Lib.hid (HT.out.trans (by rw [if_pos h7,List.append_nil]))
    clear HT
    go_wp2_with fail
    go_roundw
    case rel =>
     refine ⟨k + 1,by go_num,by omega,?_,HB.out.alloc hbs _⟩
     rw [HT7.out,← HM.out,← HCS.out]
     exact HROW.out.alloc _
    case measure => simp [intOf]; omega
   ·have HT7:=Lib.hid (HT.out.trans (by rw [if_neg h7]))
    clear HT
    go_wp2_with (at_builtin; refine wpList_append_lies _ rfl _ _ 44 rfl w.heap.size 63 i0 _ 6 56 Tryz.underlying44 hi hz0 hz1 hz2 rfl (by decide) _ m cs rfl ((HROW.out.alloc _).alloc _) ⟨wr.heap.size + 1,0,none⟩ 1 1 (kCells ⟨kd,tx,f,fr,en,bl⟩) rfl rfl (World.news_of_block (cs:=#[.int .i64 kd, .string tx, .int .i64 f, .int .i64 fr, .int .i64 en, .bool bl]) (t:=63) (fr:=(0,0)) (heap_alloc2 wr _ _)) (by simp [Value.oneCell',kCells]) (by decide) (by unfold maxLen; omega) (by omega) (by simp; omega) _ rfl ?_; intro gg cap' w2 hown hgrow hat hlt2)
    go_roundw
    case rel =>
     refine ⟨k + 1,by go_num,by omega,?_,?_⟩
     ·rw [HT7.out,List.length_append,ksCells_append,← HM.out,← HCS.out]; exact hown
     ·exact ((HB.out.alloc hbs _).alloc (by simp; omega) _).grown hgrow (by simp; omega) (fun i e => (HROW.out.lt i e).1)
    case measure => simp [intOf]; omega
  ·obtain rfl : k = n:=by omega
   rw [List.take_of_length_le (by rw [← Hn.out]; exact Nat.le_refl _)] at hrow
   have HROW:=Lib.hid hrow
   have HB:=Lib.hid hB
   clear hrow hB
   go_wp2_with fail
   go_ret
   exact ⟨_,rfl,HROW.out,HB.out⟩
theorem Ks.lv {w W : World} {u : Value} {l : List K} (h : Ks w u l) (hB : Below w.heap.size w W) {R : Nat} (hR : w.heap.size ≤ R) : Lv W R w.heap.size u l:=by
 obtain ⟨ad,cap,rfl,h1,h2,h3⟩:=h
 refine ⟨ad,cap,rfl,h1,h2,fun i t ht => ?_⟩
 obtain ⟨g,o,e,c⟩:=h3 i t ht
 have hlt:=lt_of_cell c.1
 exact ⟨g,o,e,⟨by show g ≠ R; have : g < w.heap.size:=hlt; omega,hlt⟩,c.below hB hlt⟩
def ReadPost (w : World) (l : List K) (e : Ending) (w' : World) : Prop :=
 ∃ v er,e = .returned (.tuple #[v, .int .i64 er]) ∧ Below w.heap.size w w' ∧
  ((∃ T,Ie.eval l = Ie.comes T ∧ er = 0 ∧ Ex w' (fun g => g < w'.heap.size) T v) ∨ (Ie.eval l = (0,er) ∧ er ≠ 0))
theorem Ie.inLine_tb {l : List K} (h : Tb l) : Tb (Ie.inLine l):=⟨Nat.le_trans (Ie.inLine_len l) h.1,fun t ht => h.2 t (List.mem_filter.1 ht).1⟩
theorem iread_any (HN : NumC 279 Ie.number) (HQ : NumC 280 Ie.quote) (v : Value) (l : List K) (w : World) (hG : Gv w) (hv : Ks w v l) (hT : Tb l) : Calls Tryz.prog 153 #[v] w (ReadPost w l):=by
 have K1:=Lib.hid (inLine_any v l w hv hT.1)
 have hr0 : Reads 190 [.int .i64 0] (Ie.expr 61):=(reads_all HN HQ 61 (Nat.le_refl _)).2
 have HR:=Lib.hid hr0
 have HG:=Lib.hid hG
 have HT:=Lib.hid (Ie.inLine_tb hT)
 obtain ⟨m,hm⟩ : ∃ m,m = Ie.inLine l:=⟨_,rfl⟩
 have hev : Ie.eval l = match Ie.expr 61 m with | some (x,[]) => if x.isBad then (0,91) else Ie.comes x | _ => (0,90):=by rw [hm]; rfl
 unfold LinePost at K1
 rw [← hm] at K1 HT
 have HEV:=Lib.hid hev
 clear hG hv hT HN HQ hm hev hr0
 go_enter Tryz.func153,Tryz.ntmps153
 go_wp2_with fail
 refine K1.out.mono ?_
 rintro en w2 ⟨u,rfl,hrow,hB2⟩
 have hks:=Ks.of_row hrow
 obtain ⟨uad,ucap,rfl, -⟩:=id hks
 obtain ⟨um,hum⟩ : ∃ um,um = m.length:=⟨_,rfl⟩
 rw [← hum] at hks
 rw [← hum]
 have hB3 : Below w2.heap.size w2 (w2.alloc (.cells #[.slice uad um ucap, .bool false, .int .i64 0] 321)):=Below.alloc (Below.refl _ _) (Nat.le_refl _) _
 have hbx : (w2.alloc (.cells #[.slice uad um ucap, .bool false, .int .i64 0] 321)).heap[w2.heap.size]? = some (.cells #[.slice uad um ucap, .bool false, .int .i64 0] 321 (0,0)):=heap_alloc_new w2 _
 have hRS : RS (w2.alloc (.cells #[.slice uad um ucap, .bool false, .int .i64 0] 321)) w2.heap.size w2.heap.size m false 0:=⟨_,hbx,hks.lv hB3 (Nat.le_refl _)⟩
 have hw3:=Below.then hB2 hB3
 have hs2:=hB2.size
 have hp:=HG.out.pos
 have K2:=Lib.hid (HR.out w2.heap.size w2.heap.size m false 0 _ (HG.out.later hw3) (by omega) (by simp) hRS (fun h => by cases h) HT.out)
 have HW3:=Lib.hid hw3
 have HB2:=Lib.hid hB2
 clear hrow hB2 hks hum hB3 hbx hRS hw3 HR
 go_wp2_with fail
 refine K2.out.mono ?_
 rintro en w4 ⟨v4,l4,b4,e4,rfl,hF4,⟨lv4,hbx4,hLv4⟩,hIf4,hsp4⟩
 obtain ⟨c0,c1,c2⟩:=box3v hbx4
 obtain ⟨ad4,cap4,rfl, -, -, -⟩:=hLv4
 have hwB : Below w.heap.size w w4:=by
  have h1 : Below w.heap.size (w2.alloc (.cells #[.slice uad um ucap, .bool false, .int .i64 0] 321)) w4:=hF4.below hs2 (by simp; omega)
  exact HW3.out.trans h1
 have HWB:=Lib.hid hwB
 have HF4:=Lib.hid hF4
 have HSP4:=Lib.hid hsp4
 clear hwB hF4 hsp4 hbx4 HW3 K2
 rcases HSP4.out with ⟨T,hT,rfl,rfl,hE⟩ | ⟨hN,rfl,rfl⟩
 ·have HHT:=Lib.hid hT
  have HE:=Lib.hid (show Ex w4 (fun g => g < w4.heap.size) T v4 from hE.keep fun g hg => ⟨hg.2,rfl⟩)
  clear hT hE HSP4
  cases l4 with
  | nil =>
   simp only [List.length_nil] at c0
   have hev : Ie.eval l = if T.isBad then (0,91) else Ie.comes T:=by rw [HEV.out,HHT.out]
   have HEV2:=Lib.hid hev
   obtain ⟨q,hq⟩ : ∃ q,q = T.isBad:=⟨_,rfl⟩
   rw [← hq] at c2 HEV2
   clear hev hq
   cases q with
   | true =>
    have e91 : (if true = true then (91 : Int) else 0) = 91:=rfl
    rw [e91] at c2
    clear e91
    go_wp2_with fail
    go_quiet (fail)
    go_wp2_with fail
    go_ret2
    exact ⟨_,91,rfl,⟨HWB.out.os,HWB.out.tape,HWB.out.output,HWB.out.size,HWB.out.block⟩, .inr ⟨HEV2.out,by decide⟩⟩
   | false =>
    have e0 : (if false = true then (91 : Int) else 0) = 0:=rfl
    rw [e0] at c2
    clear e0
    go_wp2_with fail
    go_ret2
    exact ⟨_,0,rfl,HWB.out, .inl ⟨T,HEV2.out,rfl,HE.out⟩⟩
  | cons t r =>
   obtain ⟨n,hn⟩ : ∃ n,n = r.length:=⟨_,rfl⟩
   simp only [List.length_cons] at c0
   rw [← hn] at c0
   have hev : Ie.eval l = (0,90):=by rw [HEV.out,HHT.out]
   have HEV2:=Lib.hid hev
   clear hev hn
   have z1 : (0 : Int) < (n : Int) + 1:=by omega
   go_wp2_with fail
   go_ret2
   exact ⟨_,90,rfl,HWB.out, .inr ⟨HEV2.out,by decide⟩⟩
 ·have hev : Ie.eval l = (0,90):=by rw [HEV.out,hN]
  have HEV2:=Lib.hid hev
  clear hev hN HSP4
  go_wp2_with fail
  go_ret2
  exact ⟨_,90,rfl,HWB.out, .inr ⟨HEV2.out,by decide⟩⟩
def EvalPost (w : World) (l : List K) (e : Ending) (w' : World) : Prop:=e = .returned (.tuple #[.int .i64 (Ie.eval l).1, .int .i64 (Ie.eval l).2]) ∧ Below w.heap.size w w'
theorem ieval_any (HN : NumC 279 Ie.number) (HQ : NumC 280 Ie.quote) (v : Value) (l : List K) (w : World) (hG : Gv w) (hv : Ks w v l) (hT : Tb l) : Calls Tryz.prog 117 #[v] w (EvalPost w l):=by
 have K1:=Lib.hid (iread_any HN HQ v l w hG hv hT)
 clear hG hv hT HN HQ
 go_enter Tryz.func117,Tryz.ntmps117
 go_wp2_with fail
 refine K1.out.mono ?_
 rintro en w2 ⟨v2,er,rfl,hB2,h⟩
 have HB2:=Lib.hid hB2
 clear hB2
 rcases h with ⟨T,hT,rfl,hE⟩ | ⟨hev,hne⟩
 ·obtain ⟨t,p,f,rfl,hn,hm,he,hcl⟩:=val_any hE w2 (Nat.le_refl _) (fun _ _ => rfl)
  have HM:=Lib.hid hcl
  have HHT:=Lib.hid hT
  clear hcl hT hE
  go_wp2_with fail
  refine HM.out.mono ?_
  rintro e3 w3 ⟨rfl,hB3⟩
  go_wp2_with fail
  go_ret2
  refine ⟨?_,Below.then HB2.out hB3⟩
  rw [HHT.out]
  rfl
 ·have HEV:=Lib.hid hev
  clear hev
  go_wp2_with fail
  go_ret2
  refine ⟨?_,HB2.out⟩
  rw [HEV.out]
  rfl
end
end Go.Proofs.YthekfpgegiffoaaGreatDoor
