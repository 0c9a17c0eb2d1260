/- What is proved: what arguments tells of a macro that takes none. (and what stands with it) -/
import Derived.Test.YthekfpgegiffoaaGreatDoorQl
import Derived.Test.YthekfpgegiffoaaGreatDoorQi
import Derived.Test.YthekfpgegiffoaaGreatDoorQk
import Derived.Test.YthekfpgegiffoaaGreatDoorQg
import Derived.Deep.QuietTactic
import Derived.BigQuiet
import Derived.Deep.LoopGhost
set_option linter.unusedSimpArgs false
set_option linter.unusedVariables false
set_option maxHeartbeats 16000000
set_option maxRecDepth 100000
namespace Go.Proofs.YthekfpgegiffoaaGreatDoor
section
open Go.RowKit Go.Shelf
open Ep (HT XS)
open Mx (M)
theorem eargs_any (w0 : World) (xb mb : Nat) (kb : Nat → Nat) (ms : List M) (run : XS → List HT → Ep.R (XS × List HT)) (hRUN : RunAny w0 xb mb kb ms run) (hG : Glob w0) (X : XS) (j q : Nat) (m : M) (iv cv : Value) (ins : List HT) (cs : List Nat) (w : World)
  (h : XM w0 w xb mb kb ms X) (hj : ms[j]? = some m) (hj' : Ep.ixOf m.name ms 0 = some j) (hq : Ep.planIx j X.pl 0 = some q) (hf : m.fn = false) (hps : m.ps.length ≤ 100000) (hib : ins.length ≤ 1000000)
  (r : Except Int (XS × List Ep.Arg)) (hr : (match Ep.shared m ins cs with | .error e => some (.error e) | .ok raws => Ep.argsOf run (Ep.pieces m) 0 X raws) = some r) :
  Calls Tryz.prog 219 #[.pointer (some ⟨xb,0,none⟩), .pointer (some ⟨kb j,0,none⟩),iv,cv] w (ArgsPost w0 w xb mb kb ms X r):=by
 obtain ⟨i0,hi,hz0,hz1,hz2⟩:=info_parts infoArg
 have hw:=h.bl.size
 obtain ⟨pb,sv,ug,ucap,pv,bv,hkb,hmv, -⟩:=h.use hj hj' hq
 have KSH:=Lib.hid (eshared_plain (kb j) m pv bv _ iv cv ins cs w hkb hf)
 have hs : Ep.shared m ins cs = .ok []:=by simp [Ep.shared,hf]
 rw [hs] at KSH hr
 have hr : r = .ok (X,[]):=by
  have h2 : Ep.argsOf run (Ep.pieces m) 0 X [] = some r:=hr
  rw [Ep.argsOf] at h2
  injection h2 with h2
  exact h2.symm
 subst hr
 have HX:=Lib.hid h
 clear h hj hj' hq hkb hmv hs hRUN hG hf hps hib
 go_enter Tryz.func219,Tryz.ntmps219
 go_wp2_with fail
 refine KSH.out.mono ?_
 rintro e1 w1 ⟨⟨v,vs,rfl,hrow⟩,hb1⟩
 obtain ⟨rad,rcap,rfl⟩ : ∃ ad cap,v = .slice ad 0 cap:=by
  rcases hrow.1.2 with ⟨h',_⟩ | ⟨g,cap,cur,h',_⟩
  ·exact ⟨none,0,h'⟩
  ·exact ⟨_,cap,h'⟩
 have HB1:=Lib.hid hb1
 clear hrow hb1
 have y0 : ((0 : Nat) : Int) = 0:=rfl
 go_wp2_with (at_make; refine wpList_make_full _ rfl _ _ 346 rfl w1.heap.size 384 i0 _ 8 Tryz.underlying346 hi hz0 hz1 .i64 .i64 _ _ 0 rfl rfl rfl rfl (by rw [hz2]; omega) (by unfold maxLen; omega) (Nat.le_refl _) ?_; intro w2 hrow2 hg2)
 have hb2 : Below w1.heap.size w1 w2:=(Below.refl _ w1).grown hg2 (Nat.le_refl _) (fun j e => by cases e)
 have HB2:=Lib.hid (Below.then HB1.out hb2)
 clear hb2 hrow2 hg2 hi hz0 hz1 hz2
 go_loopw [30] (fun a wr => a = .int .i64 0 ∧ wr = w2) (fun a _ => 0)
 case atStart => exact ⟨rfl,rfl⟩
 case round =>
  obtain ⟨rfl,rfl⟩:=hrel
  go_wp2_with fail
  exact bodyPost_ret (v:=.tuple #[.slice (some ⟨w1.heap.size,0,none⟩) 0 0, .int .i64 0]) (by simp [results,Tryz.results219,go_sem]) rfl ⟨Fr.of_below HB2.out,⟨_,rfl,⟨_,_,rfl,Nat.le_refl _,Nat.zero_le _,fun i a h => by simp at h⟩⟩,Nat.zero_le _,(fun a ha => by cases ha),HX.out.below HB2.out,Ep.Le.refl _⟩
end
section
open Go.RowKit Go.Shelf
open Ep (HT XS)
open Mx (M)
structure MOk (m : M) : Prop where
 ps : m.ps.length ≤ 100000
 psz : ∀ p ∈ m.ps,p.size ≤ 1000000000
 bl : m.body.length ≤ 1000000
 bsz : ∀ u ∈ m.body,u.text.size ≤ 1000000000
 nf : m.fn = false
 wy : ∀ p ∈ Ep.pieces m,p.way = 0
section
variable {w0 W W' : World} {xb mb : Nat} {kb : Nat → Nat} {ms : List M} {X : XS}
theorem Fr.setX {N n i : Nat} {u : Value} {cs : Array Value} {t : TypeId} {fz : Nat × Nat} {b : Nat} (hb : W.heap[b]? = some (.cells cs t fz)) (ht : t = 303 ∨ t = 307) (hN : N ≤ b) : Fr true N n W (W.setCell ⟨b,i,none⟩ u) :=
 ⟨rfl,rfl,rfl,by simp,fun k o hk ho => by
  refine (heap_setCell_other W ⟨b,i,none⟩ k u fun e => ?_).trans hk
  have e : k = b:=e
  subst e
  rw [hb] at hk
  cases hk
  rcases ho with ho | ho
  ·omega
  ·rcases ht with rfl | rfl
   ·exact (ho.1 rfl).1 rfl
   ·exact (ho.1 rfl).2 rfl⟩
theorem KnAt.keep {b : Nat} {m : M} {q : Option Nat} (h : KnAt w0 W b m q) (hb : W'.heap[b]? = W.heap[b]?) (hk : ∀ t,t ≠ 303 → t ≠ 307 → Kept t W W') : KnAt w0 W' b m q:=by
 obtain ⟨pv,bv,pp,h1,h2,h3,h4⟩:=h
 refine ⟨pv,bv,pp,hb.trans h1,h2,h3,?_⟩
 rcases h4 with h4 | ⟨i,pb,sv,uv,e1,e2,h5⟩
 ·exact .inl h4
 ·exact .inr ⟨i,pb,sv,uv,e1,e2,h5.keep (hk _ (by decide) (by decide)) (hk _ (by decide) (by decide)) (hk _ (by decide) (by decide))⟩
theorem XM.step_old (h : XM w0 W xb mb kb ms X) (hs : X.steps < 1000) : XM w0 (W.setCell ⟨xb,2,none⟩ (.int .i64 ((X.steps : Int) + 1))) xb mb kb ms ⟨X.pl,X.steps + 1⟩:=by
 have hk : ∀ t,t ≠ 303 → t ≠ 307 → Kept t W (W.setCell ⟨xb,2,none⟩ (.int .i64 ((X.steps : Int) + 1))):=fun t h1 _ => Kept.set h.blk h1
 refine ⟨?_,h.hx,?_,h.hm,fun j m h1 h2 => ?_,h.bl.setCell h.hx _,h.np,by show X.steps + 1 ≤ 1000; omega⟩
 ·simp [World.setCell,Array.getElem?_modify,h.blk]
 ·obtain ⟨es,a,b⟩:=h.mp
  exact ⟨es,a.set h.blk _,b⟩
 ·have hkn:=h.kn j m h1 h2
  refine hkn.keep (heap_setCell_other W ⟨xb,2,none⟩ (kb j) _ fun e => ?_) hk
  have e : kb j = xb:=e
  obtain ⟨_,_,_,b1, -⟩:=hkn
  rw [e,h.blk] at b1
  injection b1 with b1
  injection b1 with _ b1 _
  exact absurd b1 (by decide)
theorem XM.step_new {j : Nat} {m : M} {pb : Nat} {sv uv : Value} {W1 : World} (h : XM w0 W xb mb kb ms X) (hj : ms[j]? = some m) (hj' : Ep.ixOf m.name ms 0 = some j) (hq : Ep.planIx j X.pl 0 = none) (hs : X.steps < 1000) (hn : X.pl.length < 60)
  (hpl : PlW W1 W.heap.size pb X.pl.length sv uv (Ep.pieces m) (Ep.pieces m) (m.ps.length + 1)) (hB : Below W.heap.size (W.setCell ⟨xb,2,none⟩ (.int .i64 ((X.steps : Int) + 1))) W1) :
  XM w0 ((W1.setCell ⟨kb j,5,none⟩ (.pointer (some ⟨pb,0,none⟩))).setCell ⟨xb,1,none⟩ (.int .i64 ((X.pl.length : Int) + 1))) xb mb kb ms ⟨X.pl ++ [j],X.steps + 1⟩ ∧
   Fr true w0.heap.size W.heap.size W ((W1.setCell ⟨kb j,5,none⟩ (.pointer (some ⟨pb,0,none⟩))).setCell ⟨xb,1,none⟩ (.int .i64 ((X.pl.length : Int) + 1))):=by
 have hA:=h.step_old hs
 have hsz : (W.setCell ⟨xb,2,none⟩ (.int .i64 ((X.steps : Int) + 1))).heap.size = W.heap.size:=by simp
 have hA1:=hA.below (by rw [hsz]; exact hB)
 have f1 : Fr true w0.heap.size W.heap.size W (W.setCell ⟨xb,2,none⟩ (.int .i64 ((X.steps : Int) + 1))):=Fr.setX h.blk (.inl rfl) h.hx
 have f2 : Fr true w0.heap.size W.heap.size (W.setCell ⟨xb,2,none⟩ (.int .i64 ((X.steps : Int) + 1))) W1:=Fr.of_below (by rw [hsz]; exact hB)
 obtain ⟨pv,bv,pp,k1,k2,k3,k4⟩:=hA1.kn j m hj hj'
 have hne : kb j ≠ xb:=fun e => by
  rw [e,hA1.blk] at k1
  injection k1 with k1
  injection k1 with _ k1 _
  exact absurd k1 (by decide)
 have f3 : Fr true w0.heap.size W.heap.size W1 (W1.setCell ⟨kb j,5,none⟩ (.pointer (some ⟨pb,0,none⟩))):=Fr.setX k1 (.inr rfl) k3
 have x2 : (W1.setCell ⟨kb j,5,none⟩ (.pointer (some ⟨pb,0,none⟩))).heap[xb]? = _:=(heap_setCell_other W1 ⟨kb j,5,none⟩ xb _ (Ne.symm hne)).trans hA1.blk
 have f4 : Fr true w0.heap.size W.heap.size (W1.setCell ⟨kb j,5,none⟩ (.pointer (some ⟨pb,0,none⟩))) ((W1.setCell ⟨kb j,5,none⟩ (.pointer (some ⟨pb,0,none⟩))).setCell ⟨xb,1,none⟩ (.int .i64 ((X.pl.length : Int) + 1))):=Fr.setX x2 (.inl rfl) h.hx
 refine ⟨?_,((f1.trans f2).trans f3).trans f4⟩
 have hpp : pp = none:=by
  rcases k4 with ⟨_,e⟩ | ⟨i,_,_,_,e,_⟩
  ·exact e
  ·have e : Ep.planIx j X.pl 0 = some i:=e
   rw [hq] at e; cases e
 subst hpp
 have hk : ∀ t,t ≠ 303 → t ≠ 307 → Kept t W1 ((W1.setCell ⟨kb j,5,none⟩ (.pointer (some ⟨pb,0,none⟩))).setCell ⟨xb,1,none⟩ (.int .i64 ((X.pl.length : Int) + 1))):=fun t h1 h2 => (Kept.set k1 h2).trans (Kept.set x2 h1)
 refine ⟨?_,h.hx,?_,h.hm,fun i m' h1 h2 => ?_,(hA1.bl.setCell k3 _).setCell h.hx _,?_,by show X.steps + 1 ≤ 1000; omega⟩
 ·simp [World.setCell,Array.getElem?_modify,hA1.blk,hne]
 ·obtain ⟨es,a,b⟩:=hA1.mp
  exact ⟨es,(a.set k1 _).set x2 _,b⟩
 ·have hkn:=hA1.kn i m' h1 h2
  by_cases e : i = j
  ·subst e
   rw [h1] at hj
   injection hj with hj
   subst hj
   have hx : Ep.planIx i (X.pl ++ [i]) 0 = some X.pl.length:=by rw [Ep.planIx_snoc,hq]; simp
   rw [hx]
   refine ⟨pv,bv,some ⟨pb,0,none⟩,?_,k2,k3, .inr ⟨X.pl.length,pb,sv,uv,rfl,rfl,(hpl.base (by have:=h.bl.size; exact this)).keep (hk _ (by decide) (by decide)) (hk _ (by decide) (by decide)) (hk _ (by decide) (by decide))⟩⟩
   have : ((W1.setCell ⟨kb i,5,none⟩ (.pointer (some ⟨pb,0,none⟩))).setCell ⟨xb,1,none⟩ (.int .i64 ((X.pl.length : Int) + 1))).heap[kb i]? = (W1.setCell ⟨kb i,5,none⟩ (.pointer (some ⟨pb,0,none⟩))).heap[kb i]?:=heap_setCell_other _ ⟨xb,1,none⟩ (kb i) _ hne
   rw [this]
   simp [World.setCell,Array.getElem?_modify,k1]
  ·have hx : Ep.planIx i (X.pl ++ [j]) 0 = Ep.planIx i X.pl 0:=by
    rw [Ep.planIx_snoc]
    cases Ep.planIx i X.pl 0 with
    | some q => rfl
    | none => dsimp only; rw [if_neg (fun e' => e e'.symm)]
   rw [hx]
   have hki : kb i ≠ kb j:=fun e' => e (hA1.inj h1 h2 hj hj' e')
   have hkx : kb i ≠ xb:=fun e' => by
    obtain ⟨_,_,_,b1, -⟩:=hkn
    rw [e',hA1.blk] at b1
    injection b1 with b1
    injection b1 with _ b1 _
    exact absurd b1 (by decide)
   exact hkn.keep ((heap_setCell_other _ ⟨xb,1,none⟩ (kb i) _ hkx).trans (heap_setCell_other _ ⟨kb j,5,none⟩ (kb i) _ hki)) hk
 ·show (X.pl ++ [j]).length ≤ 60
  simp; omega
end
def StepPost (w0 w : World) (xb mb : Nat) (kb : Nat → Nat) (ms : List M) (X X1 : XS) (j q : Nat) (e : Ending) (w' : World) : Prop :=
 e = .returned (.int .i64 0) ∧ XM w0 w' xb mb kb ms X1 ∧ Fr true w0.heap.size w.heap.size w w' ∧ Ep.Le X X1 ∧ Ep.planIx j X1.pl 0 = some q ∧ X1.steps = X.steps + 1 ∧ q < 60
theorem estep_any (w0 : World) (xb mb : Nat) (kb : Nat → Nat) (ms : List M) (X X1 : XS) (j q : Nat) (m : M) (w : World) (h : XM w0 w xb mb kb ms X) (hj : ms[j]? = some m) (hj' : Ep.ixOf m.name ms 0 = some j) (hm : MOk m) (hs : Ep.stepOf X j = some (X1,q)) :
  Calls Tryz.prog 218 #[.pointer (some ⟨xb,0,none⟩), .pointer (some ⟨kb j,0,none⟩)] w (StepPost w0 w xb mb kb ms X X1 j q):=by
 unfold Ep.stepOf at hs
 split at hs
 ·rename_i hst
  obtain ⟨pv,bv,pp,k1,k2,k3,k4⟩:=h.kn j m hj hj'
  cases hq : Ep.planIx j X.pl 0 with
  | some q0 =>
   rw [hq] at hs
   injection hs with hs
   injection hs with e1 e2
   subst e1 e2
   rcases k4 with ⟨e,_⟩ | ⟨i,pb,sv,uv,e,rfl,hpl⟩
   ·rw [hq] at e; cases e
   ·refine (estep_old xb (kb j) _ X.pl.length X.steps _ _ _ _ _ ⟨pb,0,none⟩ w h.blk k1 hst).mono ?_
    rintro e w' ⟨rfl,rfl⟩
    have hlt:=(Ep.planIx_lt j X.pl 0 q0 hq).2
    exact ⟨rfl,h.step_old hst,Fr.setX h.blk (.inl rfl) h.hx,⟨Nat.le_succ _,fun _ _ e => e⟩,hq,rfl,by have:=h.np; omega⟩
  | none =>
   rw [hq] at hs
   dsimp only at hs
   split at hs
   ·rename_i hn
    injection hs with hs
    injection hs with e1 e2
    subst e1 e2
    have hpp : pp = none:=by
     rcases k4 with ⟨_,e⟩ | ⟨i,_,_,_,e,_⟩
     ·exact e
     ·rw [hq] at e; cases e
    subst hpp
    refine (estep_new xb (kb j) _ X.pl.length X.steps m pv bv w0 w h.blk k1 k2 h.bl h.hx hst (by omega) hm.bsz hm.bl (by have:=hm.ps; omega) hm.psz).mono ?_
    rintro e w' ⟨rfl,pb,sv,uv,W1,hpl,hB,rfl⟩
    obtain ⟨a,b⟩:=h.step_new hj hj' hq hst hn hpl hB
    have hx : Ep.planIx j (X.pl ++ [j]) 0 = some X.pl.length:=by rw [Ep.planIx_snoc,hq]; simp
    refine ⟨rfl,a,b,⟨Nat.le_succ _,fun i q' e => ?_⟩,hx,rfl,by omega⟩
    show Ep.planIx i (X.pl ++ [j]) 0 = some q'
    rw [Ep.planIx_snoc,e]
   ·cases hs
 ·cases hs
end
section
open Go.RowKit Go.Shelf
open Ep (HT)
theorem Ep.fill_cons {ags : List Ep.Arg} {p : Ep.Pc} {l : List Ep.Pc} {f : Ep.Fl} {r : Except Int Ep.Fl} (h : Ep.fill ags (p :: l) f = some r) : (∃ e,Ep.piece f p ags = some (.error e) ∧ r = .error e) ∨ ∃ f',Ep.piece f p ags = some (.ok f') ∧ Ep.fill ags l f' = some r:=by
 unfold Ep.fill at h
 split at h
 ·rename_i f' ha
  exact .inr ⟨f',ha,h⟩
 ·rename_i hno
  cases hr : r with
  | error e => rw [hr] at h; exact .inl ⟨e,h,rfl⟩
  | ok f' => rw [hr] at h; exact absurd h (hno f')
theorem Ep.piece_plain {f : Ep.Fl} {p : Ep.Pc} {ags : List Ep.Arg} {r : Except Int Ep.Fl} (hw : p.way = 0) (hgl : f.gl = false) (hmk : ∀ l,f.out.getLast? = some l → l.mark = false) (h : Ep.piece f p ags = some r) :
  Ep.add f (Ep.HT.of p.t) = some r ∧ f.out.length < 4000 ∧ r = .ok ⟨f.out ++ [Ep.HT.of p.t],f.gl⟩:=by
 have h0 : Ep.add f (Ep.HT.of p.t) = some r:=by
  unfold Ep.piece at h
  rw [hw] at h
  exact h
 refine ⟨h0,?_⟩
 unfold Ep.add at h0
 cases hl : f.out.getLast? with
 | none => rw [hl] at h0; exact Ep.app_some h0
 | some l =>
  rw [hl] at h0
  dsimp only at h0
  rw [hgl,if_neg (by decide),hmk l hl,if_neg (by decide)] at h0
  have:=Ep.app_some h0
  rw [hgl]
  rw [hgl] at this
  exact this
def Ep.fin : Except Int Ep.Fl → Except Int (List HT)
 | .ok f => .ok (Ep.unmark f.out)
 | .error e => .error e
def FilledPost (w : World) (r : Except Int (List HT)) (e : Ending) (w' : World) : Prop :=
 match r with
 | .ok l => (∃ v,e = .returned (.tuple #[v, .int .i64 0]) ∧ HRow w' w.heap.size v l) ∧ l.length ≤ 4000 ∧ Below w.heap.size w w'
 | .error k => e = .returned (.tuple #[.slice none 0 0, .int .i64 k]) ∧ k ≠ 0 ∧ Below w.heap.size w w'
theorem HRow.unmark {W : World} {n g cap : Nat} {l : List HT} (h : HRow W n (.slice (some ⟨g,0,none⟩) l.length cap) l) : HRow W n (.slice (some ⟨g,0,none⟩) l.dropLast.length cap) l.dropLast:=by
 obtain ⟨cs,hrow,hcs⟩:=h
 exact ⟨_,row_shrink hrow (by rw [List.length_dropLast]; omega),hcs.dropLast⟩
theorem efilled_any (P U : List Ep.Pc) (n0 pb num k0 : Nat) (sv uv va : Value) (ags : List Ep.Arg) (w : World) (hG : Glob w) (hpl : PlW w n0 pb num sv uv P U k0) (ha : Ags w va ags) (hag : ags.length ≤ 1000000)
  (hls : ∀ a ∈ ags,a.raw.length ≤ 1000000 ∧ a.full.length ≤ 1000000) (hw : ∀ p ∈ P,p.way = 0) (hP : P.length ≤ 1000000) (rr : Except Int Ep.Fl) (hrr : Ep.fill ags P ⟨[],false⟩ = some rr) :
  Calls Tryz.prog 220 #[.pointer (some ⟨pb,0,none⟩),va] w (FilledPost w (Ep.fin rr)):=by
 obtain ⟨sad,scap,rfl⟩ : ∃ ad cap,sv = .slice ad P.length cap:=by
  rcases hpl.srow.2 with ⟨h',h0⟩ | ⟨g,cap,cur,h',_⟩
  ·exact ⟨none,0,by rw [h',h0]⟩
  ·exact ⟨_,_,h'⟩
 obtain ⟨L,hL⟩ : ∃ L,L = P.length:=⟨_,rfl⟩
 have y1 : w.cell? ⟨pb,1,none⟩ = some (.slice sad P.length scap):=(Lib.cell_of_heap hpl.blk 1).trans rfl
 have hpb:=lt_of_heap hpl.blk
 rw [← hL] at y1 hP
 have hA : Below w.heap.size w (w.alloc (.cells #[.slice none 0 0, .bool false] 388)):=(Below.refl _ _).alloc (Nat.le_refl _) _
 have hfs : Fs (w.alloc (.cells #[.slice none 0 0, .bool false] 388)) w.heap.size w.heap.size (.slice none 0 0) ⟨[],false⟩:=⟨heap_alloc_new w _,Nat.le_refl _,HRow.nil _ _⟩
 have HL:=Lib.hid hL
 have HFS:=Lib.hid hfs
 have HAL:=Lib.hid hA
 have HPL:=Lib.hid hpl
 have HG:=Lib.hid hG
 have HA:=Lib.hid ha
 have HAG:=Lib.hid hag
 have HLS:=Lib.hid hls
 have HW:=Lib.hid hw
 have HRR:=Lib.hid hrr
 clear hL hA hfs hpl hG ha hag hls hw hrr
 go_enter Tryz.func220,Tryz.ntmps220
 go_wp2_with fail
 go_loopw [16] (fun a wr => ∃ (k : Nat) (f' : Ep.Fl),a = .int .i64 k ∧ k ≤ L ∧ Ep.fill ags (P.drop k) f' = some rr ∧ (∃ ov,Fs wr w.heap.size w.heap.size ov f') ∧ f'.out.length ≤ 4000 ∧ (f'.gl = false ∧ ∀ l,f'.out.getLast? = some l → l.mark = false) ∧ Below w.heap.size w wr) (fun a _ => L - (intOf a).toNat)
 case atStart => exact ⟨0,⟨[],false⟩,rfl,Nat.zero_le _,HRR.out,⟨_,HFS.out⟩,Nat.zero_le _,⟨rfl,fun l h => by simp at h⟩,HAL.out⟩
 case round =>
  obtain ⟨k,f',rfl,hk,hr,hfs,hf,hpl0,hB⟩:=hrel
  have HPL0:=Lib.hid hpl0
  clear hpl0
  by_cases hlt : k < L
  ·obtain ⟨p,hp⟩ : ∃ p,P[k]? = some p:=⟨_,List.getElem?_eq_getElem (by rw [← HL.out]; exact hlt)⟩
   have hd : P.drop k = p :: P.drop (k + 1):=by
    obtain ⟨h1,h2⟩:=List.getElem?_eq_some_iff.1 hp
    rw [List.drop_eq_getElem_cons h1,h2]
   rw [hd] at hr
   have hcons:=Ep.fill_cons hr
   have hrow:=row_below HPL.out.srow hB
   rw [← HL.out] at hrow
   obtain ⟨g,cap,hv, -, -⟩:=hrow.form (by omega)
   rw [hv] at hrow
   cases hv
   have cell : ∀ (j : Nat) (u : Value),(pcCells1 p)[j]? = some u → wr.cell? ⟨g,k * 8 + j,none⟩ = some u:=fun j u hu => by
    have hj : j < 8:=(List.getElem?_eq_some_iff.1 hu).1
    exact (hrow.cellAt (k * 8 + j) (by omega)).trans (pcCells_get P k _ hp j u hu)
   have e0:=cell 0 _ rfl
   have e1:=cell 1 _ rfl
   have e2:=cell 2 _ rfl
   have e3:=cell 3 _ rfl
   have e4:=cell 4 _ rfl
   have e5:=cell 5 _ rfl
   have e6:=cell 6 _ rfl
   have e7:=cell 7 _ rfl
   rw [Nat.add_zero] at e0
   have HWP:=Lib.hid (HW.out p (List.mem_of_getElem? hp))
   have HC:=Lib.hid hcons
   have HFS2:=Lib.hid hfs
   have HF2:=Lib.hid hf
   have HB:=Lib.hid hB
   have hbs:=hB.size
   obtain ⟨⟨kd,tx,fl,fr,en,bl⟩,way,par⟩:=p
   dsimp only [pcCells1] at e0 e1 e2 e3 e4 e5 e6 e7 HC HWP
   have z1 : (0 : Int) ≤ k:=by omega
   have z2 : (k : Int) < L:=by omega
   have hA2 : Below wr.heap.size wr (wr.alloc (.cells #[.int .i64 kd, .string tx, .int .i64 fl, .int .i64 fr, .int .i64 en, .bool bl, .int .i64 (way : Int), .int .i64 (par : Int)] 390)):=(Below.refl _ _).alloc (Nat.le_refl _) _
   have HA2:=Lib.hid hA2
   have hbA:=hB.trans (hA2.mono hbs)
   have HBA:=Lib.hid hbA
   clear hp hd hr hcons hrow cell hfs hf hB hA2 hbA
   go_wp2_with fail
   rcases HC.out with ⟨e,hpc,hre⟩ | ⟨f2,hpc,hrest⟩
   ·obtain ⟨-, -,he⟩:=Ep.piece_plain HWP.out HPL0.out.1 HPL0.out.2 hpc
    cases he
   ·obtain ⟨hadd,hlt4,he⟩:=Ep.piece_plain HWP.out HPL0.out.1 HPL0.out.2 hpc
    injection he with he
    have HRE:=Lib.hid hrest
    have HLN : Hid (f2.out.length ≤ 4000):=Lib.hid (by rw [he]; simp; omega)
    have HPL2 : Hid (f2.gl = false ∧ ∀ l,f2.out.getLast? = some l → l.mark = false):=Lib.hid (by rw [he]; exact ⟨HPL0.out.1,fun l hl => by simp at hl; rw [← hl]; rfl⟩)
    refine (piece_self w.heap.size w.heap.size f' ⟨⟨kd,tx,fl,fr,en,bl⟩,way,par⟩ va ags w _ rfl HG.out HA.out (HFS2.out.imp fun ov h => h.below HA2.out) HBA.out HAG.out HF2.out HPL0.out.1 HPL0.out.2 (.ok f2) HWP.out hadd).mono ?_
    rintro e9 w9 ⟨rfl,hf9,hb9⟩
    have HB9:=Lib.hid (HBA.out.trans hb9)
    have HF9:=Lib.hid hf9
    clear hb9 hf9 hpc hrest hadd he hlt4 e0 e1 e2 e3 e4 e5 e6 e7
    go_wp2_with fail
    go_roundw
    case rel => exact ⟨k + 1,f2,by go_num,by omega,HRE.out,HF9.out,HLN.out,HPL2.out,HB9.out⟩
    case measure => simp [intOf]; omega
  ·obtain rfl : k = L:=by omega
   have he : P.drop k = []:=List.drop_eq_nil_of_le (by rw [← HL.out]; exact Nat.le_refl _)
   rw [he] at hr
   injection hr with hr
   subst hr
   have HFS2:=Lib.hid hfs
   have HF2:=Lib.hid hf
   have HB:=Lib.hid hB
   obtain ⟨ov,h⟩:=hfs
   obtain ⟨out,gl⟩:=f'
   dsimp only at hf
   clear hB
   have hcase : out = [] ∨ ∃ i l,out = i ++ [l]:=by
    rcases List.eq_nil_or_concat out with h | ⟨i,l,h⟩
    ·exact .inl h
    ·exact .inr ⟨i,l,by rw [h]; simp⟩
   rcases hcase with rfl | ⟨i,l,rfl⟩
   ·obtain ⟨ad,cap,rfl, -, -⟩:=h.row.hs.form
    simp only [List.length_nil] at h
    have c0 : wr.cell? ⟨w.heap.size,0,none⟩ = some (.slice ad 0 cap):=(Lib.cell_of_heap h.blk 0).trans rfl
    have HH:=Lib.hid h
    clear h
    go_wp2_with fail
    exact bodyPost_ret (v:=.tuple #[.slice ad 0 cap, .int .i64 0]) (by simp [results,Tryz.results220,go_sem]) rfl ⟨⟨_,rfl,HH.out.row⟩,Nat.zero_le _,HB.out⟩
   ·obtain ⟨g,cap,pl,cs',cur,rfl,hng,hgl,b1,b2,hpl,hrow2,hcs2,hg,hfz,hcell⟩:=h.row.last
    rw [show (i ++ [l]).length = i.length + 1 by simp] at hf
    have d7:=hcell 7 _ rfl
    have q1 : (0 : Int) ≤ (i.length : Int):=by omega
    have q2 : (i.length : Int) < (i.length : Int) + 1:=by omega
    have q3 : IntKind.i64.wrap ((i.length : Int) + 1 - 1) = i.length:=by rw [Int.add_sub_cancel]; exact IntWalk.i64_in _ (by omega)
    have q4 : ((i.length : Int) + 1 - 1) = i.length:=Int.add_sub_cancel _ _
    have q5 : ¬ (4000 : Int) < (i.length : Int) + 1:=by omega
    have q6 : ¬ (4000 : Int) < (i.length : Int):=by omega
    have q7 : (i.length : Int) ≤ cap:=by omega
    have c0 : wr.cell? ⟨w.heap.size,0,none⟩ = some (.slice (some ⟨g,0,none⟩) (i.length + 1) cap):=(Lib.cell_of_heap h.blk 0).trans rfl
    have hf0 : wr.frozen? ⟨w.heap.size,0,none⟩ = false:=by simp [World.frozen?,h.blk]
    have hlb:=lt_of_heap h.blk
    have HH:=Lib.hid h
    have HRW:=Lib.hid hrow2
    have HB1:=Lib.hid b1
    have HB2:=Lib.hid b2
    clear hcell hfz hg hcs2 hrow2 hpl h
    cases hm : l.mark with
    | false =>
     rw [hm] at d7
     go_wp2_with fail
     have hu : Ep.unmark (i ++ [l]) = i ++ [l]:=by simp [Ep.unmark,hm]
     rw [Ep.fin,hu]
     exact bodyPost_ret (v:=.tuple #[.slice (some ⟨g,0,none⟩) (i.length + 1) cap, .int .i64 0]) (by simp [results,Tryz.results220,go_sem]) rfl ⟨⟨_,rfl,HH.out.row⟩,by simp; omega,HB.out⟩
    | true =>
     rw [hm] at d7
     go_wp2_with fail
     have hu : Ep.unmark (i ++ [l]) = i:=by simp [Ep.unmark,hm]
     rw [Ep.fin,hu]
     refine bodyPost_ret (v:=.tuple #[.slice (some ⟨g,0,none⟩) i.length cap, .int .i64 0]) (by simp [results,Tryz.results220,go_sem]) rfl ⟨⟨_,rfl,?_⟩,by omega,HB.out.setCell (show w.heap.size ≤ w.heap.size from Nat.le_refl _) _⟩
     have hrow0:=HH.out.row
     have hu2 : HRow wr w.heap.size (.slice (some ⟨g,0,none⟩) (i ++ [l]).dropLast.length cap) (i ++ [l]).dropLast:=HRow.unmark (by rw [show (i ++ [l]).length = i.length + 1 by simp]; exact hrow0)
     rw [List.dropLast_concat] at hu2
     obtain ⟨cs,hr1,hc1⟩:=hu2
     refine ⟨cs,ownsRow_setCell_other hr1 (fun e => ?_) _,hc1.keep (Kept.set HH.out.blk (by decide))⟩
     injection e with e
     have e : g = w.heap.size:=e
     rcases HRW.out.2 with ⟨h',_⟩ | ⟨g',cap',cur',h',_,hg',_⟩
     ·cases h'
     ·cases h'
      rw [e,HH.out.blk] at hg'
      injection hg' with hg'; injection hg' with _ hg' _; exact absurd hg' (by decide)
end
section
open Go.RowKit Go.Shelf
open Ep (HT XS)
open Mx (M)
theorem HCs.setBl {W : World} {b : Bool} {x : HT} {l : List HT} {cs : List Value} (h : HCs W (x :: l) cs) : HCs W (⟨Ep.blK x.t b,x.hd,x.mark⟩ :: l) (cs.set 5 (.bool b)):=by
 obtain ⟨p,r,e,hp,h⟩:=h
 subst e
 exact ⟨p,r,rfl,hp,h⟩
theorem HRow.come {W : World} {n g m cap : Nat} {x : HT} {l : List HT} (h : HRow W n (.slice (some ⟨g,0,none⟩) m cap) (x :: l)) (b : Bool) : HRow (W.setCell ⟨g,5,none⟩ (.bool b)) n (.slice (some ⟨g,0,none⟩) m cap) (Ep.come (x :: l) b):=by
 obtain ⟨cur,hg, -⟩:=h.block
 obtain ⟨cs,hrow,hcs⟩:=h
 obtain rfl : m = (x :: l).length:=by
  rcases hrow.2 with ⟨h',_⟩ | ⟨g',cap',cur,h',_⟩
  ·cases h'
  ·cases h'; rfl
 exact ⟨cs.set 5 (.bool b),(hrow.stored 5 (.bool b)).1,hcs.setBl.keep (Kept.set hg (by decide))⟩
def ReplPost (w0 : World) (n lb xb mb : Nat) (kb : Nat → Nat) (ms : List M) (X : XS) (vs0 : List Value) (w : World) (r : Except Int (XS × List HT × List (List HT))) (e : Ending) (w' : World) : Prop :=
 Fr true w0.heap.size n w w' ∧
 match r with
 | .ok (X',l,st') => (∃ v,e = .returned (.tuple #[v, .int .i64 0]) ∧ Hs w' v l ∧ ∀ B,v.ownBlock = some B → w.heap.size ≤ B) ∧ l.length ≤ 4000 ∧ XM w0 w' xb mb kb ms X' ∧ Ep.Le X X' ∧ X.steps + 1 ≤ X'.steps ∧ ∃ lv vs,Rs w' n lb lv vs st' false ∧ Sub vs vs0
 | .error k => e = .returned (.tuple #[.slice none 0 0, .int .i64 k]) ∧ k ≠ 0
noncomputable def replBody : Code:=Tryz.f188.body.getD .skip
structure RpL (w0 w W : World) (n lb xb mb : Nat) (kb : Nat → Nat) (ms : List M) (vs0 : List Value) (X X' : XS) (st : List (List HT)) (B6 : Nat) (x : HT) (hp : Option Addr) (h : Nat) : Prop where
 xm : XM w0 W xb mb kb ms X'
 le : Ep.Le X X'
 rs : ∃ lv vs,Rs W n lb lv vs st false ∧ Sub vs vs0
 fr : Fr true w0.heap.size n w W
 bx : ∃ p,W.heap[B6]? = some (.cells #[.int .i64 x.t.kind, .string x.t.text, .int .i64 x.t.file, .int .i64 x.t.fr, .int .i64 x.t.en, .bool x.t.bl, .pointer p, .bool x.mark] 314 (0,0))
 hd : HidP W hp h
section
variable {w0 w W W' : World} {n lb xb mb : Nat} {kb : Nat → Nat} {ms : List M} {vs0 : List Value} {X X' X2 : XS} {st : List (List HT)} {B6 : Nat} {x : HT} {hp : Option Addr} {h : Nat}
theorem RpL.hn (k : RpL w0 w W n lb xb mb kb ms vs0 X X' st B6 x hp h) : n ≤ W.heap.size:=by obtain ⟨lv,vs,hr, -⟩:=k.rs; exact Nat.le_trans hr.hn (Nat.le_of_lt hr.lt)
theorem RpL.move (k : RpL w0 w W n lb xb mb kb ms vs0 X X' st B6 x hp h) (hf : Fr true w0.heap.size W.heap.size W W') (hx : XM w0 W' xb mb kb ms X2) (hl : Ep.Le X' X2) : RpL w0 w W' n lb xb mb kb ms vs0 X X2 st B6 x hp h:=by
 obtain ⟨lv,vs,hr,hsub⟩:=k.rs
 obtain ⟨p,hb⟩:=k.bx
 have hk:=KeepA.of_fr hf
 refine ⟨hx,k.le.trans hl,⟨lv,vs,hr.keep (fun b hbb => ?_) (hk.kept (by decide) (by decide)) (hk.kept (by decide) (by decide)),hsub⟩,k.fr.trans (hf.le k.hn),⟨p,hk _ _ _ _ hb (by decide) (by decide)⟩,k.hd.keep (hk.kept (by decide) (by decide))⟩
 rcases hbb with rfl | hbb
 ·rw [hk _ _ _ _ hr.blk (by decide) (by decide),hr.blk]
 ·rcases hr.row.2 with ⟨h',_⟩ | ⟨g,cap,cur,h',_,h2,_⟩
  ·rw [h'] at hbb; cases hbb
  ·rw [h'] at hbb
   simp only [Value.ownBlock,Option.some.injEq] at hbb
   subst hbb
   rw [hk _ _ _ _ h2 (by decide) (by decide),h2]
theorem RpL.below (k : RpL w0 w W n lb xb mb kb ms vs0 X X' st B6 x hp h) (hb : Below W.heap.size W W') : RpL w0 w W' n lb xb mb kb ms vs0 X X' st B6 x hp h:=k.move (Fr.of_below hb) (k.xm.below hb) (Ep.Le.refl _)
end
theorem repl_end (w0 w V W : World) (n lb xb mb : Nat) (kb : Nat → Nat) (ms : List M) (vs0 : List Value) (X X' : XS) (st : List (List HT)) (B6 : Nat) (x : HT) (hp : Option Addr) (h j q : Nat) (m : M) (v : Value) (l : List HT) c0 c2 c3 c4 c5 c7 c8 c9 c11 c12 c13 c14 c15 c17 c18 c19 c20 c21 c22 c23 c24 c25 c26 c27 c28 c29 c30 c31 c32 c33 c34 c35 c36 c37 c38 c39 c40 c41 c42 c43 c44 c45 c46 c47 c48 c49 c50 c51 c52 c53 c54 c55 c56 c57 c58 c59 c60 c61 c62 c63 c64 c65 c66 c67 c68 c69 c70 c71 c72 c73 c74 c75 c76 c77 c78 c79 c80 c81 c82 c83 c84 c85 c86 c87 c88 c89 c90 c91 c92 c93 c94 c95 c96 c97 (hL : RpL w0 w V n lb xb mb kb ms vs0 X X' st B6 x hp h) (hst : X.steps + 1 ≤ X'.steps)
  (hj : ms[j]? = some m) (hj' : Ep.ixOf m.name ms 0 = some j) (hq : Ep.planIx j X'.pl 0 = some q) (hq6 : q < 60) (hV : Below V.heap.size V W) (hrow : HRow W V.heap.size v l) (hl : l.length ≤ 4000) :
  Code.wp Tryz.prog (secs 10 replBody) (bodyPost Tryz.prog Tryz.f188 (ReplPost w0 n lb xb mb kb ms X vs0 w (.ok (X',Ep.fit x l h q,st))))
   ⟨#[c0, .pointer (some ⟨kb j,0,none⟩),c2,c3,c4,c5, .pointer (some ⟨B6,0,none⟩),c7,c8,c9, .pointer hp,c11,c12,c13,c14,c15,v,c17,c18,c19,c20,c21,c22,c23,c24,c25,c26,c27,c28,c29,c30,c31,c32,c33,c34,c35,c36,c37,c38,c39,c40,c41,c42,c43,c44,c45,c46,c47,c48,c49,c50,c51,c52,c53,c54,c55,c56,c57,c58,c59,c60,c61,c62,c63,c64,c65,c66,c67,c68,c69,c70,c71,c72,c73,c74,c75,c76,c77,c78,c79,c80,c81,c82,c83,c84,c85,c86,c87,c88,c89,c90,c91,c92,c93,c94,c95,c96,c97],[]⟩ W:=by
 obtain ⟨ad,cap,rfl, -, -⟩:=hrow.hs.form
 have hW:=hL.below hV
 obtain ⟨pb,sv,ug,ucap,pv,bv, -, -, -,k5,p0,p2, -⟩:=hW.xm.use hj hj' hq
 have hown : ∀ B,(Value.slice ad l.length cap).ownBlock = some B → V.heap.size ≤ B:=fun B hB => by obtain ⟨cs,hr, -⟩:=hrow; exact (hr.lt B hB).1
 have KW:=Lib.hid (ewith_any hp h q W hW.hd hq6)
 have HL:=Lib.hid hL
 have HROW:=Lib.hid hrow
 have HV:=Lib.hid hV
 have hvs:=hV.size
 clear hW hL hrow hV hj hj' hq
 refine wp_sec 10 replBody rfl ?_
 conv => arg 2; whnf
 go_wp2_with fail
 refine KW.out.mono ?_
 rintro e1 w1 ⟨⟨q1,rfl,hh1⟩,hb1⟩
 have KH:=Lib.hid (ehide_any (.slice ad l.length cap) l q1 (h ||| 1 <<< q) V.heap.size w1 (HROW.out.below hb1) hh1 (by omega) (Nat.le_trans hvs hb1.size))
 have HB1:=Lib.hid (Below.then HV.out hb1)
 clear hh1 hb1 k5 p0 p2
 go_wp2_with fail
 refine KH.out.mono ?_
 rintro e2 w2 ⟨rfl,hrow2,hb2⟩
 have hB2:=HB1.out.trans hb2
 have hL2:=HL.out.below hB2
 obtain ⟨p,hbx⟩:=hL2.bx
 obtain ⟨-, -, -, -, -,x5, -, -, -⟩:=box8_cells hbx
 go_wp2_with fail
 refine wp_sec 11 replBody rfl ?_
 conv => arg 2; whnf
 cases hl0 : l with
 | nil =>
  subst hl0
  have hfin : ReplPost w0 n lb xb mb kb ms X vs0 w (.ok (X',Ep.fit x [] h q,st)) (.returned (.tuple #[.slice ad 0 cap, .int .i64 0])) w2 :=
   ⟨hL2.fr,⟨_,rfl,hrow2.hs,fun B hB => Nat.le_trans HL.out.fr.size (hown B hB)⟩,Nat.zero_le _,hL2.xm,hL2.le,hst,hL2.rs⟩
  have HF:=Lib.hid hfin
  clear hfin hL2 hbx hrow2 hb2 hB2
  go_wp2_with fail
  refine wp_sec 12 replBody rfl ?_
  conv => arg 2; whnf
  go_wp2_with fail
  conv => arg 2; whnf
  go_wp2_with fail
  go_ret2
  exact HF.out
 | cons y r =>
  subst hl0
  have hyr : Ep.hide (y :: r) (h ||| 1 <<< q) = ⟨y.t,y.hd ||| (h ||| 1 <<< q),y.mark⟩ :: Ep.hide r (h ||| 1 <<< q):=rfl
  obtain ⟨g,hg0⟩ : ∃ g,ad = some ⟨g,0,none⟩:=by
   obtain ⟨cs,hr, -⟩:=hrow2
   rcases hr.2 with ⟨_,h0⟩ | ⟨g',cap',cur,h',_⟩
   ·simp [Ep.hide] at h0
   ·injection h' with h'
    exact ⟨g',h'⟩
  subst hg0
  have hrow3:=hrow2
  rw [hyr] at hrow3
  obtain ⟨cur,hgb,hng⟩:=hrow3.block
  obtain ⟨g',o',e, -,⟨-, -, -, -, -,d5⟩, -⟩:=hs_some hrow3.hs (show (_ :: _ : List HT)[0]? = some _ from rfl)
  injection e with e
  injection e with e1 e2
  subst e1 e2
  rw [Nat.zero_mul,Nat.add_zero] at d5
  have hfz : ∀ i,w2.frozen? ⟨g,i,none⟩ = false:=fun i => by simp [World.frozen?,hgb]
  have hlast:=hrow3.come x.t.bl
  have hL3:=HL.out.below (hB2.setCell (p:=⟨g,5,none⟩) hng (.bool x.t.bl))
  have hfin : ReplPost w0 n lb xb mb kb ms X vs0 w (.ok (X',Ep.fit x (y :: r) h q,st)) (.returned (.tuple #[.slice (some ⟨g,0,none⟩) (r.length + 1) cap, .int .i64 0])) (w2.setCell ⟨g,5,none⟩ (.bool x.t.bl)) :=
   ⟨hL3.fr,⟨_,rfl,hlast.hs,fun B hB => Nat.le_trans HL.out.fr.size (hown B hB)⟩,by show (Ep.fit x (y :: r) h q).length ≤ 4000; simpa [Ep.fit,Ep.come,Ep.hide] using hl,hL3.xm,hL3.le,hst,hL3.rs⟩
  have HF:=Lib.hid hfin
  have z0 : (0 : Int) < (y :: r).length:=by rw [List.length_cons]; omega
  have z1 : (0 : Int) < (r.length : Int) + 1:=by omega
  have hlen : (y :: r).length = r.length + 1:=rfl
  clear hfin hL3 hlast hrow3 hL2 hbx hrow2 hb2 hB2 hyr hgb hl
  rw [hlen] at z0 ⊢
  go_wp2_with fail
  refine wp_sec 12 replBody rfl ?_
  conv => arg 2; whnf
  go_wp2_with fail
  conv => arg 2; whnf
  go_wp2_with fail
  go_ret2
  exact HF.out
end
section
open Go.RowKit Go.Shelf
open Ep (HT XS)
open Mx (M)
def Ep.behind (m : M) (x : HT) (h q : Nat) (st : List (List HT)) : Except Int (XS × List Ep.Arg) → Ep.R (XS × List HT × List (List HT))
 | .error e => some (.error e)
 | .ok (X2,ags) =>
  match Ep.filled (Ep.pieces m) ags with
  | none => none
  | some (.error e) => some (.error e)
  | some (.ok l) => some (.ok (X2,Ep.fit x l h q,st))
theorem Ep.behind_ok (m : M) (x : HT) (h q : Nat) (st : List (List HT)) (X2 : XS) (ags : List Ep.Arg) : Ep.behind m x h q st (.ok (X2,ags)) =
  match Ep.filled (Ep.pieces m) ags with
  | none => none
  | some (.error e) => some (.error e)
  | some (.ok l) => some (.ok (X2,Ep.fit x l h q,st)):=rfl
theorem Ep.filled_fin (P : List Ep.Pc) (ags : List Ep.Arg) : Ep.filled P ags = (Ep.fill ags P ⟨[],false⟩).map Ep.fin:=by
 unfold Ep.filled
 cases Ep.fill ags P ⟨[],false⟩ with
 | none => rfl
 | some rr => cases rr <;> rfl
theorem repl_fill (w0 w W : World) (n lb xb mb : Nat) (kb : Nat → Nat) (ms : List M) (vs0 : List Value) (X X' : XS) (st : List (List HT)) (B6 : Nat) (x : HT) (hp : Option Addr) (h j q : Nat) (m : M) (v : Value) (ags : List Ep.Arg) c0 c2 c3 c4 c5 c7 c8 c9 c11 c12 c13 c15 c16 c17 c18 c19 c20 c21 c22 c23 c24 c25 c26 c27 c28 c29 c30 c31 c32 c33 c34 c35 c36 c37 c38 c39 c40 c41 c42 c43 c44 c45 c46 c47 c48 c49 c50 c51 c52 c53 c54 c55 c56 c57 c58 c59 c60 c61 c62 c63 c64 c65 c66 c67 c68 c69 c70 c71 c72 c73 c74 c75 c76 c77 c78 c79 c80 c81 c82 c83 c84 c85 c86 c87 c88 c89 c90 c91 c92 c93 c94 c95 c96 c97 (hL : RpL w0 w W n lb xb mb kb ms vs0 X X' st B6 x hp h) (hst : X.steps + 1 ≤ X'.steps)
  (hG : Glob w0) (hm : MOk m) (hj : ms[j]? = some m) (hj' : Ep.ixOf m.name ms 0 = some j) (hq : Ep.planIx j X'.pl 0 = some q) (hq6 : q < 60) (hv : Ags W v ags) (hag : ags.length ≤ 1000000) (hls : ∀ a ∈ ags,a.raw.length ≤ 1000000 ∧ a.full.length ≤ 1000000)
  (r : Except Int (XS × List HT × List (List HT))) (hr : Ep.behind m x h q st (.ok (X',ags)) = some r) :
  Code.wp Tryz.prog (secs 8 replBody) (bodyPost Tryz.prog Tryz.f188 (ReplPost w0 n lb xb mb kb ms X vs0 w r))
   ⟨#[c0, .pointer (some ⟨kb j,0,none⟩),c2,c3,c4,c5, .pointer (some ⟨B6,0,none⟩),c7,c8,c9, .pointer hp,c11,c12,c13,v,c15,c16,c17,c18,c19,c20,c21,c22,c23,c24,c25,c26,c27,c28,c29,c30,c31,c32,c33,c34,c35,c36,c37,c38,c39,c40,c41,c42,c43,c44,c45,c46,c47,c48,c49,c50,c51,c52,c53,c54,c55,c56,c57,c58,c59,c60,c61,c62,c63,c64,c65,c66,c67,c68,c69,c70,c71,c72,c73,c74,c75,c76,c77,c78,c79,c80,c81,c82,c83,c84,c85,c86,c87,c88,c89,c90,c91,c92,c93,c94,c95,c96,c97],[]⟩ W:=by
 obtain ⟨pb,sv,ug,ucap,pv,bv, -, -,hpl,k5,p0,p2, -⟩:=hL.xm.use hj hj' hq
 rw [Ep.behind_ok,Ep.filled_fin] at hr
 obtain ⟨rr,hrr⟩ : ∃ rr,Ep.fill ags (Ep.pieces m) ⟨[],false⟩ = some rr:=by
  cases hf : Ep.fill ags (Ep.pieces m) ⟨[],false⟩ with
  | none => rw [hf] at hr; cases hr
  | some rr => exact ⟨rr,rfl⟩
 rw [hrr,Option.map_some] at hr
 have KF:=Lib.hid (efilled_any (Ep.pieces m) (Ep.pieces m) w0.heap.size pb q (m.ps.length + 1) sv _ v ags W (hG.below hL.xm.bl hG.pos) hpl hv hag hls hm.wy (Nat.le_trans (Ep.pieces_length m) hm.bl) rr hrr)
 have hr2 : r = match Ep.fin rr with | .error e => .error e | .ok l => .ok (X',Ep.fit x l h q,st):=by
  cases hf : Ep.fin rr with
  | error e => rw [hf] at hr; injection hr with hr; exact hr.symm
  | ok l => rw [hf] at hr; injection hr with hr; exact hr.symm
 have HL:=Lib.hid hL
 have HR:=Lib.hid hr2
 have HJ:=Lib.hid (And.intro hj (And.intro hj' hq))
 clear hL hj hj' hq hrr hr2 hr hpl hv hls
 generalize Ep.fin rr = f at KF HR
 refine wp_sec 8 replBody rfl ?_
 conv => arg 2; whnf
 go_wp2_with fail
 refine KF.out.mono ?_
 rintro e1 w1 hf1
 cases f with
 | error k =>
  obtain ⟨rfl,hk0,hb1⟩:=hf1
  have hfin : ReplPost w0 n lb xb mb kb ms X vs0 w r (.returned (.tuple #[.slice none 0 0, .int .i64 k])) w1:=by
   rw [HR.out]
   exact ⟨(HL.out.below hb1).fr,rfl,hk0⟩
  have HF:=Lib.hid hfin
  have q0 : ¬ (k = 0):=hk0
  clear hfin hb1 k5 p0 p2
  go_wp2_with fail
  refine wp_sec 9 replBody rfl ?_
  conv => arg 2; whnf
  go_wp2_with fail
  go_ret2
  exact HF.out
 | ok l =>
  obtain ⟨⟨v1,rfl,hrow⟩,hl,hb1⟩:=hf1
  have HB1:=Lib.hid hb1
  have HROW:=Lib.hid hrow
  clear hb1 hrow k5 p0 p2
  go_wp2_with fail
  refine wp_sec 9 replBody rfl ?_
  conv => arg 2; whnf
  go_wp2_with fail
  rw [HR.out]
  exact repl_end w0 w W w1 n lb xb mb kb ms vs0 X X' st B6 x hp h j q m v1 l _ _ _ _ _ _ _ _ _ _ _ _ _ _ _ _ _ _ _ _ _ _ _ _ _ _ _ _ _ _ _ _ _ _ _ _ _ _ _ _ _ _ _ _ _ _ _ _ _ _ _ _ _ _ _ _ _ _ _ _ _ _ _ _ _ _ _ _ _ _ _ _ _ _ _ _ _ _ _ _ _ _ _ _ _ _ _ _ _ _ _ _ _ _ HL.out hst HJ.out.1 HJ.out.2.1 HJ.out.2.2 hq6 HB1.out HROW.out hl
theorem repl_step (w0 w W : World) (n lb xb mb : Nat) (kb : Nat → Nat) (ms : List M) (vs0 : List Value) (run : XS → List HT → Ep.R (XS × List HT)) (hRUN : RunAny w0 xb mb kb ms run) (X : XS) (st : List (List HT)) (B6 : Nat) (x : HT) (hp : Option Addr) (h j : Nat) (m : M) (iv cv : Value) (ins : List HT) (cs : List Nat) c2 c3 c4 c5 c7 c8 c9 c13 c14 c15 c16 c17 c18 c19 c20 c21 c22 c23 c24 c25 c26 c27 c28 c29 c30 c31 c32 c33 c34 c35 c36 c37 c38 c39 c40 c41 c42 c43 c44 c45 c46 c47 c48 c49 c50 c51 c52 c53 c54 c55 c56 c57 c58 c59 c60 c61 c62 c63 c64 c65 c66 c67 c68 c69 c70 c71 c72 c73 c74 c75 c76 c77 c78 c79 c80 c81 c82 c83 c84 c85 c86 c87 c88 c89 c90 c91 c92 c93 c94 c95 c96 c97 (hL : RpL w0 w W n lb xb mb kb ms vs0 X X st B6 x hp h)
  (hG : Glob w0) (hm : MOk m) (hj : ms[j]? = some m) (hj' : Ep.ixOf m.name ms 0 = some j) (hib : ins.length ≤ 1000000)
  (r : Except Int (XS × List HT × List (List HT))) (X1 : XS) (q : Nat) (hs : Ep.stepOf X j = some (X1,q)) (ra : Except Int (XS × List Ep.Arg)) (hra : (match Ep.shared m ins cs with | .error e => some (.error e) | .ok raws => Ep.argsOf run (Ep.pieces m) 0 X1 raws) = some ra) (hr : Ep.behind m x h q st ra = some r) :
  Code.wp Tryz.prog (secs 5 replBody) (bodyPost Tryz.prog Tryz.f188 (ReplPost w0 n lb xb mb kb ms X vs0 w r))
   ⟨#[.pointer (some ⟨xb,0,none⟩), .pointer (some ⟨kb j,0,none⟩),c2,c3,c4,c5, .pointer (some ⟨B6,0,none⟩),c7,c8,c9, .pointer hp,iv,cv,c13,c14,c15,c16,c17,c18,c19,c20,c21,c22,c23,c24,c25,c26,c27,c28,c29,c30,c31,c32,c33,c34,c35,c36,c37,c38,c39,c40,c41,c42,c43,c44,c45,c46,c47,c48,c49,c50,c51,c52,c53,c54,c55,c56,c57,c58,c59,c60,c61,c62,c63,c64,c65,c66,c67,c68,c69,c70,c71,c72,c73,c74,c75,c76,c77,c78,c79,c80,c81,c82,c83,c84,c85,c86,c87,c88,c89,c90,c91,c92,c93,c94,c95,c96,c97],[]⟩ W:=by
 have KS:=Lib.hid (estep_any w0 xb mb kb ms X X1 j q m W hL.xm hj hj' hm hs)
 have HL:=Lib.hid hL
 have HJ:=Lib.hid (And.intro hj hj')
 have HRA:=Lib.hid hra
 have HR:=Lib.hid hr
 have HRUN:=Lib.hid hRUN
 clear hL hj hj' hra hr hRUN hs
 refine wp_sec 5 replBody rfl ?_
 conv => arg 2; whnf
 go_wp2_with fail
 refine KS.out.mono ?_
 rintro e1 w1 ⟨rfl,hx1,hf1,hle1,hq1,hs1,hq6⟩
 have hL1:=HL.out.move hf1 hx1 hle1
 have KA:=Lib.hid (eargs_any w0 xb mb kb ms run HRUN.out hG X1 j q m iv cv ins cs w1 hx1 HJ.out.1 HJ.out.2 hq1 hm.nf hm.ps hib ra HRA.out)
 have HL1:=Lib.hid hL1
 have HQ1:=Lib.hid hq1
 have HS1:=Lib.hid hs1
 clear hx1 hf1 hle1 hL1 hq1 hs1
 go_wp2_with fail
 refine wp_sec 6 replBody rfl ?_
 conv => arg 2; whnf
 go_wp2_with fail
 refine KA.out.mono ?_
 rintro e2 w2 ⟨hf2,hr2⟩
 cases ra with
 | error k =>
  obtain ⟨rfl,hk0⟩:=hr2
  have hfin : ReplPost w0 n lb xb mb kb ms X vs0 w r (.returned (.tuple #[.slice none 0 0, .int .i64 k])) w2:=by
   have:=HR.out
   unfold Ep.behind at this
   injection this with this
   rw [← this]
   exact ⟨HL1.out.fr.trans (hf2.le HL1.out.hn),rfl,hk0⟩
  have HF:=Lib.hid hfin
  have q0 : ¬ (k = 0):=hk0
  clear hfin hf2
  go_wp2_with fail
  refine wp_sec 7 replBody rfl ?_
  conv => arg 2; whnf
  go_wp2_with fail
  go_ret2
  exact HF.out
 | ok y =>
  obtain ⟨X2,ags⟩:=y
  obtain ⟨⟨v2,rfl,hv2⟩,hal,hls,hx2,hle2⟩:=hr2
  have HL2:=Lib.hid (HL1.out.move hf2 hx2 hle2)
  have HV2:=Lib.hid hv2
  have HLS:=Lib.hid hls
  have HLE:=Lib.hid hle2
  clear hf2 hv2 hls hx2 hle2
  go_wp2_with fail
  refine wp_sec 7 replBody rfl ?_
  conv => arg 2; whnf
  go_wp2_with fail
  exact repl_fill w0 w w2 n lb xb mb kb ms vs0 X X2 st B6 x hp h j q m v2 ags _ _ _ _ _ _ _ _ _ _ _ _ _ _ _ _ _ _ _ _ _ _ _ _ _ _ _ _ _ _ _ _ _ _ _ _ _ _ _ _ _ _ _ _ _ _ _ _ _ _ _ _ _ _ _ _ _ _ _ _ _ _ _ _ _ _ _ _ _ _ _ _ _ _ _ _ _ _ _ _ _ _ _ _ _ _ _ _ _ _ _ _ _ _ HL2.out (by have:=HLE.out.st; have:=HS1.out; omega) hG hm HJ.out.1 HJ.out.2 (HLE.out.pl j q HQ1.out) hq6 HV2.out hal HLS.out r HR.out
end
section
open Go.RowKit Go.Shelf
open Ep (HT XS)
open Mx (M)
theorem Ls.ne {W : World} : ∀ {st : List (List HT)} {vs : List Value},Ls W st vs → ∀ l ∈ st,l ≠ []
 | [],_,_,l,hl => by cases hl
 | a :: st,_,⟨us,v,_,_,hn,h⟩,l,hl => by
  rcases List.mem_cons.1 hl with rfl | hl
  ·exact hn
  ·exact Ls.ne h l hl
theorem Ep.takeS_some {k : Nat} {st : List (List HT)} {ins : List HT} {st' : List (List HT)} (h : Ep.takeS k st = some (ins,st')) : ∃ l r,st = l :: r ∧ k ≤ l.length ∧ ins = l.take k ∧ st' = Ep.drop1 k (l :: r):=by
 unfold Ep.takeS at h
 split at h
 ·cases h
 ·rename_i l r
  split at h
  ·rename_i hk
   injection h with h
   injection h with h1 h2
   exact ⟨l,r,rfl,hk,h1.symm,h2.symm⟩
  ·cases h
theorem Ep.replace_parts {run : XS → List HT → Ep.R (XS × List HT)} {ms : List M} {X : XS} {j : Nat} {m : M} {x : HT} {st : List (List HT)} {r : Except Int (XS × List HT × List (List HT))} {ins : List HT} {cs : List Nat} {h : Nat} {st' : List (List HT)}
  (hr : Ep.replace run ms X j m x st = some r) (ht : Ep.takeInv m x st = some (.ok (ins,cs,h,st'))) :
  ∃ X1 q ra,Ep.stepOf X j = some (X1,q) ∧ (match Ep.shared m ins cs with | .error e => some (.error e) | .ok raws => Ep.argsOf run (Ep.pieces m) 0 X1 raws) = some ra ∧ Ep.behind m x h q st' ra = some r:=by
 unfold Ep.replace at hr
 rw [ht] at hr
 dsimp only at hr
 cases hs : Ep.stepOf X j with
 | none => rw [hs] at hr; cases hr
 | some y =>
  obtain ⟨X1,q⟩:=y
  rw [hs] at hr
  dsimp only at hr
  cases hsh : Ep.shared m ins cs with
  | error e => rw [hsh] at hr; exact ⟨X1,q, .error e,rfl,rfl,hr⟩
  | ok raws =>
   rw [hsh] at hr
   dsimp only at hr
   cases ha : Ep.argsOf run (Ep.pieces m) 0 X1 raws with
   | none => rw [ha] at hr; cases hr
   | some ra =>
    rw [ha] at hr
    refine ⟨X1,q,ra,rfl,ha,?_⟩
    cases ra with
    | error e => exact hr
    | ok y => exact hr
theorem ereplace_plain (w0 : World) (n lb xb mb : Nat) (kb : Nat → Nat) (ms : List M) (run : XS → List HT → Ep.R (XS × List HT)) (hRUN : RunAny w0 xb mb kb ms run) (X : XS) (st : List (List HT)) (lv : Value) (vs : List Value) (x : HT) (p : Option Addr) (j : Nat) (m : M) (w : World)
  (h : XM w0 w xb mb kb ms X) (hR : Rs w n lb lv vs st false) (hp : HidP w p x.hd) (hG : Glob w0) (hm : MOk m) (hj : ms[j]? = some m) (hj' : Ep.ixOf m.name ms 0 = some j) (hf : m.fn = false)
  (r : Except Int (XS × List HT × List (List HT))) (hr : Ep.replace run ms X j m x st = some r) :
  Calls Tryz.prog 188 #[.pointer (some ⟨xb,0,none⟩), .pointer (some ⟨kb j,0,none⟩),htAgg x p, .pointer (some ⟨lb,0,none⟩)] w (ReplPost w0 n lb xb mb kb ms X vs w r):=by
 have ht : Ep.takeInv m x st = some (.ok ([],[],x.hd,st)):=by simp [Ep.takeInv,hf]
 obtain ⟨X1,q,ra,hs,hra,hr2⟩:=Ep.replace_parts hr ht
 obtain ⟨⟨kd,tx,fl,fr,en,bl⟩,hd,mk⟩:=x
 have hal : Below w.heap.size w (w.alloc (.cells #[.int .i64 kd, .string tx, .int .i64 fl, .int .i64 fr, .int .i64 en, .bool bl, .pointer p, .bool mk] 314)):=(Below.refl _ w).alloc (Nat.le_refl _) _
 have hbx:=heap_alloc_new w (.cells #[.int .i64 kd, .string tx, .int .i64 fl, .int .i64 fr, .int .i64 en, .bool bl, .pointer p, .bool mk] 314)
 have hL : RpL w0 w (w.alloc (.cells #[.int .i64 kd, .string tx, .int .i64 fl, .int .i64 fr, .int .i64 en, .bool bl, .pointer p, .bool mk] 314)) n lb xb mb kb ms vs X X st w.heap.size ⟨⟨kd,tx,fl,fr,en,bl⟩,hd,mk⟩ p hd :=
  ⟨h.below hal,Ep.Le.refl _,⟨lv,vs,hR.below hal,Sub.refl _⟩,Fr.of_below hal,⟨p,hbx⟩,hp.keep (Kept.of_below hal _)⟩
 obtain ⟨_,_,_,k1, -⟩:=hL.xm.kn j m hj hj'
 obtain ⟨-,f1, -⟩:=box6_cells k1
 rw [hf] at f1
 obtain ⟨b0,b1,b2,b3,b4,b5,b6,b7, -⟩:=box8_cells hbx
 have HL:=Lib.hid hL
 have HJ:=Lib.hid (And.intro hj hj')
 have HRUN:=Lib.hid hRUN
 have HRA:=Lib.hid hra
 have HR2:=Lib.hid hr2
 have HS:=Lib.hid hs
 clear h hR hp hj hj' hRUN hra hr2 hs hr ht hal k1 hbx hL
 unfold htAgg
 dsimp only
 go_enter Tryz.func188,Tryz.ntmps188
 show Code.wp Tryz.prog (secs 0 replBody) _ _ _
 refine wp_sec 0 replBody rfl ?_
 conv => arg 2; whnf
 go_wp2_with fail
 generalize (w.alloc (.cells #[.int .i64 kd, .string tx, .int .i64 fl, .int .i64 fr, .int .i64 en, .bool bl, .pointer p, .bool mk] 314)) = W at HL f1 b0 b1 b2 b3 b4 b5 b6 b7 ⊢
 generalize w.heap.size = B6 at HL b0 b1 b2 b3 b4 b5 b6 b7 ⊢
 refine wp_sec 1 replBody rfl ?_
 conv => arg 2; whnf
 go_wp2_with fail
 refine wp_sec 2 replBody rfl ?_
 conv => arg 2; whnf
 go_wp2_with fail
 refine wp_sec 3 replBody rfl ?_
 conv => arg 2; whnf
 go_wp2_with fail
 refine wp_sec 4 replBody rfl ?_
 conv => arg 2; whnf
 go_wp2_with fail
 exact repl_step w0 w W n lb xb mb kb ms vs run HRUN.out X st B6 ⟨⟨kd,tx,fl,fr,en,bl⟩,hd,mk⟩ p hd j m _ _ [] [] _ _ _ _ _ _ _ _ _ _ _ _ _ _ _ _ _ _ _ _ _ _ _ _ _ _ _ _ _ _ _ _ _ _ _ _ _ _ _ _ _ _ _ _ _ _ _ _ _ _ _ _ _ _ _ _ _ _ _ _ _ _ _ _ _ _ _ _ _ _ _ _ _ _ _ _ _ _ _ _ _ _ _ _ _ _ _ _ _ _ _ _ HL.out hG hm HJ.out.1 HJ.out.2 (Nat.zero_le _) r X1 q HS.out ra HRA.out HR2.out
theorem ereplace_any (w0 : World) (n lb xb mb : Nat) (kb : Nat → Nat) (ms : List M) (run : XS → List HT → Ep.R (XS × List HT)) (hRUN : RunAny w0 xb mb kb ms run) (X : XS) (st : List (List HT)) (lv : Value) (vs : List Value) (x : HT) (p : Option Addr) (j : Nat) (m : M) (w : World)
  (h : XM w0 w xb mb kb ms X) (hR : Rs w n lb lv vs st false) (hp : HidP w p x.hd) (hN : w0.heap.size ≤ n) (hG : Glob w0) (hm : MOk m) (hj : ms[j]? = some m) (hj' : Ep.ixOf m.name ms 0 = some j)
  (r : Except Int (XS × List HT × List (List HT))) (hr : Ep.replace run ms X j m x st = some r) :
  Calls Tryz.prog 188 #[.pointer (some ⟨xb,0,none⟩), .pointer (some ⟨kb j,0,none⟩),htAgg x p, .pointer (some ⟨lb,0,none⟩)] w (ReplPost w0 n lb xb mb kb ms X vs w r):=by
 exact ereplace_plain w0 n lb xb mb kb ms run hRUN X st lv vs x p j m w h hR hp hG hm hj hj' hm.nf r hr
end
section
open Go.RowKit Go.Shelf
open Ep (HT XS)
open Mx (M)
theorem emacroOf_any (w0 : World) (xb mb : Nat) (kb : Nat → Nat) (ms : List M) (X : XS) (x : HT) (p : Option Addr) (w : World) (h : XM w0 w xb mb kb ms X) (hp : HidP w p x.hd) :
  Calls Tryz.prog 186 #[.pointer (some ⟨xb,0,none⟩),htAgg x p] w fun e w' => e = .returned (.pointer ((Ep.macroOf ms X x).map fun j => ⟨kb j,0,none⟩)) ∧ Below w.heap.size w w':=by
 obtain ⟨⟨kd,tx,f,fr,en,bl⟩,hd,mk⟩:=x
 have hA : Below w.heap.size w (w.alloc (.cells #[.int .i64 kd, .string tx, .int .i64 f, .int .i64 fr, .int .i64 en, .bool bl, .pointer p, .bool mk] 314)):=(Below.refl _ w).alloc (Nat.le_refl _) _
 have hlook:=fun nn => ((h.below hA).below (Below.drewN (Below.refl _ _) nn)).look tx
 have hx:=h.below hA
 have hp1 : HidP _ p hd:=hp.keep (Kept.of_below hA _)
 obtain ⟨x0,x1,x2, -⟩:=box3_cells hx.blk
 have HA:=Lib.hid hA
 unfold htAgg
 dsimp only
 by_cases hk : kd = 1
 ·subst hk
  cases hix : Ep.ixOf tx ms 0 with
  | none =>
   simp only [hix,Option.map_none] at hlook
   have hr : Ep.macroOf ms X ⟨⟨1,tx,f,fr,en,bl⟩,hd,mk⟩ = none:=by simp [Ep.macroOf,hix]
   rw [hr]
   rw [Option.map_none]
   clear h hx hp hp1 hA hr
   go_enter Tryz.func186,Tryz.ntmps186
   go_wp2_with fail
   go_quiet (fail)
   go_wp2_with fail
   go_quiet (fail)
   go_wp2_with fail
   go_ret
   exact ⟨rfl,Below.drewN (Below.drewN HA.out _) _⟩
  | some j =>
   simp only [hix,Option.map_some] at hlook
   obtain ⟨m,hm1,hm2⟩:=Ep.ixOf_some hix
   obtain ⟨pv,bv,pp,hb, -, -,hpl⟩:=hx.kn j m hm1 (by rw [hm2]; exact hix)
   obtain ⟨-, -, -, -, -,k5⟩:=box6_cells hb
   rcases hpl with ⟨hq,rfl⟩ | ⟨i,pb,sv,uv,hq,rfl,hpl⟩
   ·have hr : Ep.macroOf ms X ⟨⟨1,tx,f,fr,en,bl⟩,hd,mk⟩ = some j:=by simp [Ep.macroOf,hix,hq]
    rw [hr,Option.map_some]
    clear h hx hp hp1 hA hr hb
    go_enter Tryz.func186,Tryz.ntmps186
    go_wp2_with fail
    go_quiet (fail)
    go_wp2_with fail
    go_quiet (fail)
    go_wp2_with fail
    go_ret
    exact ⟨rfl,Below.drewN (Below.drewN HA.out _) _⟩
   ·have hi : i < 60:=by have:=(Ep.planIx_lt j X.pl 0 i hq).2; have:=hx.np; omega
    have hr : Ep.macroOf ms X ⟨⟨1,tx,f,fr,en,bl⟩,hd,mk⟩ = if hd.testBit i then none else some j:=by simp [Ep.macroOf,hix,hq]
    obtain ⟨p0, -, -, -⟩:=box3_cells hpl.blk
    rw [hr]
    have KH:=Lib.hid (fun (n : Nat) => ehas_any p hd i ((w.alloc (.cells #[.int .i64 1, .string tx, .int .i64 f, .int .i64 fr, .int .i64 en, .bool bl, .pointer p, .bool mk] 314)).drewN n) (HidP.keep (W:=(w.alloc (.cells #[.int .i64 1, .string tx, .int .i64 f, .int .i64 fr, .int .i64 en, .bool bl, .pointer p, .bool mk] 314))) hp1 (fun _ _ _ h => h)) hi)
    clear h hx hp hp1 hA hr hb hpl
    generalize hd.testBit i = c at KH ⊢
    cases c with
    | true =>
     rw [if_pos rfl,Option.map_none]
     go_enter Tryz.func186,Tryz.ntmps186
     go_wp2_with fail
     go_quiet (fail)
     go_wp2_with fail
     go_quiet ((go_at_call 212; exact (KH.out _).mono fun _ _ hh => ⟨hh.1,_,hh.2⟩))
     go_wp2_with fail
     go_ret
     exact ⟨rfl,Below.drewN (Below.drewN HA.out _) _⟩
    | false =>
     rw [if_neg (by decide),Option.map_some]
     go_enter Tryz.func186,Tryz.ntmps186
     go_wp2_with fail
     go_quiet (fail)
     go_wp2_with fail
     go_quiet ((go_at_call 212; exact (KH.out _).mono fun _ _ hh => ⟨hh.1,_,hh.2⟩))
     go_wp2_with fail
     go_ret
     exact ⟨rfl,Below.drewN (Below.drewN HA.out _) _⟩
 ·have hr : Ep.macroOf ms X ⟨⟨kd,tx,f,fr,en,bl⟩,hd,mk⟩ = none:=by simp [Ep.macroOf,hk]
  rw [hr,Option.map_none]
  have hk' : ¬ (kd = 1):=hk
  clear h hx hp hp1 hA hr hlook x0 x1 x2
  go_enter Tryz.func186,Tryz.ntmps186
  go_wp2_with fail
  go_ret
  exact ⟨rfl,HA.out⟩
end
section
open Go.RowKit Go.Shelf
open Ep (HT XS)
open Mx (M)
theorem Off.append {B : Nat} {vs : List Value} {v : Value} (h : Off B vs) (hv : v.ownBlock ≠ some B) : Off B (vs ++ [v]):=fun u hu => by
 rcases List.mem_append.1 hu with hu | hu
 ·exact h u hu
 ·rw [List.mem_singleton.1 hu]; exact hv
def PutPost (N n lb : Nat) (st : List (List HT) × Bool) (vs : List Value) (v : Value) (w : World) (e : Ending) (w' : World) : Prop :=
 e = .returned (.tuple #[]) ∧ (∃ lv' vs',Rs w' n lb lv' vs' st.1 st.2 ∧ ∀ B,Off B vs → v.ownBlock ≠ some B → Off B vs') ∧ Fr false N n w w'
theorem eput2_any (N n lb : Nat) (lv : Value) (vs : List Value) (st : List (List HT)) (v : Value) (l : List HT) (b' : Bool) (w : World) (h : Rs w n lb lv vs st false) (hv : Hs w v l) (hN : N ≤ n) (hst : st.length ≤ 1000000) :
  Calls Tryz.prog 184 #[.pointer (some ⟨lb,0,none⟩),v, .bool b'] w (PutPost N n lb (Ep.put l b' st) vs v w):=by
 obtain ⟨i0,hi,hz0,hz1,hz2⟩:=info_parts infoHts
 have c0:=h.c0
 have c1:=h.c1
 have f0:=h.froz 0
 have f1:=h.froz 1
 have hlt:=h.lt
 obtain ⟨ad,cap,rfl, -, -⟩:=hv.form
 cases l with
 | nil =>
  have key : PutPost N n lb (Ep.put [] b' st) vs (.slice ad 0 cap) w (.returned (.tuple #[])) (w.setCell ⟨lb,1,none⟩ (.bool b')):=by
   refine ⟨rfl,⟨lv,vs,?_,fun B hB _ => hB⟩,Fr.set_rest h.blk (.inl rfl) h.hn hN⟩
   refine ⟨by simp [World.setCell,Array.getElem?_modify,h.blk,Ep.put],h.hn,ownsRow_setCell_other h.row h.off _,h.ls.keep (Kept.set h.blk (by decide)) (Kept.set h.blk (by decide))⟩
  have KEY:=Lib.hid key
  clear key h hv
  rw [List.length_nil]
  go_enter Tryz.func184,Tryz.ntmps184
  go_wp2_with fail
  exact bodyPost_ret (results_none rfl _ _ _) rfl KEY.out
 | cons x r =>
  have hrow:=h.row
  obtain ⟨U,hU⟩ : ∃ U,U = vs.length:=⟨_,rfl⟩
  have hU1 : U ≤ 1000000:=by rw [hU,h.ls.length]; exact hst
  have hnb : n ≤ w.heap.size:=Nat.le_trans h.hn (Nat.le_of_lt hlt)
  have off:=Ne.symm h.off
  have HH:=Lib.hid h
  have Hv:=Lib.hid hv
  have HU:=Lib.hid hU
  rw [← hU] at hrow
  have q0 : ¬ ((x :: r).length = 0):=by simp
  have q1 : ¬ (((x :: r).length : Int) = 0):=by simp; omega
  obtain ⟨L,hL⟩ : ∃ L,L = (x :: r).length:=⟨_,rfl⟩
  rw [← hL] at q0 q1 ⊢
  have qb : ((L : Int) == 0) = false:=beq_eq_false_iff_ne.2 (by omega)
  rw [← hL] at Hv
  have hal : Below w.heap.size w (w.alloc (.cells #[.slice ad L cap] 267)):=(Below.refl _ w).alloc (Nat.le_refl _) _
  have d0:=(hal.cell (p:=⟨lb,0,none⟩) hlt).trans c0
  have g0:=(hal.frozen (p:=⟨lb,0,none⟩) hlt).trans f0
  have hlt1 : lb < (w.alloc (.cells #[.slice ad L cap] 267)).heap.size:=by simp; omega
  have HAL:=Lib.hid hal
  clear h hv hU hst hL c1 f1 f0 hal
  go_enter Tryz.func184,Tryz.ntmps184
  go_wp2_with (at_builtin; refine wpList_append_lies _ rfl _ _ 308 rfl n 267 i0 _ 1 24 Tryz.underlying308 hi hz0 hz1 hz2 rfl (by decide) lv U vs rfl (hrow.alloc _) ⟨w.heap.size,0,none⟩ 1 1 [.slice ad L cap] rfl rfl (World.news_of_block (cs:=#[.slice ad L cap]) (t:=267) (fr:=(0,0)) (heap_alloc_new w _)) (by simp [Value.oneCell']) (by decide) (by unfold maxLen; omega) (by omega) (by simp; omega) _ rfl ?_; intro gg cap' w2 hown hgrow hat hlt2; have e0:=(hgrow.cell_far ⟨lb,0,none⟩ hlt1 off).trans d0; have e1:=(hgrow.frozen_far ⟨lb,0,none⟩ hlt1 off).trans g0)
  go_end0
  rw [HU.out] at hown
  have hp:=HH.out.push Hv.out (by simp) HAL.out hown hgrow (by
   simp only [Value.ownBlock,ne_eq,Option.some.injEq]
   rcases hat with hat | hat
   ·rintro rfl; exact off hat.symm
   ·simp at hat; omega) hN
  rw [← HU.out] at hp
  exact ⟨rfl,⟨_,_,hp.1,fun B hB hvB => hB.append hvB⟩,hp.2⟩
def NextPost (N n lb : Nat) (vs : List Value) (st : List (List HT)) (b : Bool) (w : World) (e : Ending) (w' : World) : Prop :=
 ∃ x p,e = .returned (.tuple #[htAgg x p, .bool (Ep.next st b).isSome]) ∧ HidP w' p x.hd ∧ Fr false N n w w' ∧
  match Ep.next st b with
  | none => st = [] ∧ ∃ lv',Rs w' n lb lv' vs [] b
  | some (y,st') => x = y ∧ ∃ lv' vs',Rs w' n lb lv' vs' st' false ∧ Sub vs' vs
theorem enext_any (N n lb : Nat) (lv : Value) (vs : List Value) (st : List (List HT)) (b : Bool) (w : World) (h : Rs w n lb lv vs st b) (hN : N ≤ n) (hl : ∀ l ∈ st,l.length ≤ 1000000) (hst : st.length ≤ 1000000) :
  Calls Tryz.prog 185 #[.pointer (some ⟨lb,0,none⟩)] w (NextPost N n lb vs st b w):=by
 cases st with
 | nil =>
  refine (enext_none n lb lv vs b w h).mono ?_
  rintro e w' ⟨rfl,hb⟩
  exact ⟨⟨Ep.zeroK,0,false⟩,none,rfl,HidP.zero _,Fr.of_below hb,rfl,lv,h.below hb⟩
 | cons l st =>
  cases l with
  | nil => exact absurd rfl (h.ls.ne _ List.mem_cons_self)
  | cons x r =>
   refine (enext_some N n lb lv vs x r st b w h hN (hl _ List.mem_cons_self) (by simp only [List.length_cons] at hst; omega)).mono ?_
   rintro e w' ⟨p,rfl,hp,⟨lv',vs',hr,hs⟩,hf⟩
   exact ⟨_,p,rfl,hp,hf,rfl,lv',vs',hr,hs⟩
def Ep.go (ms : List M) (n k : Nat) (X : XS) (x : HT) (st' : List (List HT)) : Ep.R (XS × List HT) :=
 if 1000000 < x.t.text.size then none
 else
  match Ep.macroOf ms X x with
  | none => if k < 4000 then Ep.stays x (Ep.run ms n (k + 1) X st' false) else none
  | some j =>
   match ms[j]? with
   | none => none
   | some m =>
    if m.fn && !Ep.opens st' then (if k < 4000 then Ep.stays x (Ep.run ms n (k + 1) X st' false) else none)
    else
     match Ep.replace (fun X l => Ep.run ms n 0 X (Ep.put l false []).1 false) ms X j m x st' with
     | none => none
     | some (.error e) => some (.error e)
     | some (.ok (X',l,st'')) => Ep.run ms n k X' (Ep.put l x.t.bl st'').1 (Ep.put l x.t.bl st'').2
theorem Ep.run_next (ms : List M) (n k : Nat) (X : XS) (st : List (List HT)) (b : Bool) : Ep.run ms (n + 1) k X st b = match Ep.next st b with | none => some (.ok (X,[])) | some (x,st') => Ep.go ms n k X x st':=rfl
def Ep.joinR (acc : List HT) : Except Int (XS × List HT) → Except Int (XS × List HT)
 | .ok (X,l) => .ok (X,acc ++ l)
 | .error e => .error e
theorem Ep.stays_some {x : HT} {o : Ep.R (XS × List HT)} {r' : Except Int (XS × List HT)} (h : Ep.stays x o = some r') (acc : List HT) : ∃ r'',o = some r'' ∧ Ep.joinR acc r' = Ep.joinR (acc ++ [x]) r'':=by
 unfold Ep.stays at h
 split at h
 ·rename_i X l
  injection h with h
  subst h
  exact ⟨_,rfl,by simp [Ep.joinR]⟩
 ·rename_i o' hno
  cases o with
  | none => cases h
  | some r'' =>
   injection h with h
   subst h
   refine ⟨r'',rfl,?_⟩
   cases r'' with
   | error e => rfl
   | ok y => exact absurd rfl (hno y.1 y.2)
theorem Ep.put_len (l : List HT) (b : Bool) (st : List (List HT)) : (Ep.put l b st).1.length ≤ st.length + 1 ∧ ∀ x ∈ (Ep.put l b st).1,x = l ∨ x ∈ st:=by
 unfold Ep.put
 split
 ·exact ⟨by show st.length ≤ _; omega,fun x hx => .inr hx⟩
 ·exact ⟨by show (l :: st).length ≤ _; simp,fun x hx => by rcases List.mem_cons.1 hx with h | h; exact .inl h; exact .inr h⟩
theorem Ep.drop1_len (k : Nat) (st : List (List HT)) (B : Nat) (h : ∀ l ∈ st,l.length ≤ B) : (Ep.drop1 k st).length ≤ st.length ∧ ∀ l ∈ Ep.drop1 k st,l.length ≤ B:=by
 cases st with
 | nil => exact ⟨Nat.le_refl _,h⟩
 | cons a r =>
  rw [show Ep.drop1 k (a :: r) = if a.length ≤ k then r else a.drop k :: r from rfl]
  split
  ·exact ⟨by simp,fun l hl => h l (List.mem_cons_of_mem _ hl)⟩
  ·refine ⟨by simp,fun l hl => ?_⟩
   rcases List.mem_cons.1 hl with rfl | hl
   ·rw [List.length_drop]; have:=h a List.mem_cons_self; omega
   ·exact h l (List.mem_cons_of_mem _ hl)
theorem Ep.next_len {st : List (List HT)} {b : Bool} {x : HT} {st' : List (List HT)} (h : Ep.next st b = some (x,st')) (B : Nat) (hl : ∀ l ∈ st,l.length ≤ B) : st'.length ≤ st.length ∧ ∀ l ∈ st',l.length ≤ B:=by
 unfold Ep.next at h
 split at h
 ·rename_i y r st2
  injection h with h
  injection h with _ h
  subst h
  exact Ep.drop1_len 1 _ B hl
 ·cases h
theorem Ep.replace_len {run : XS → List HT → Ep.R (XS × List HT)} {ms : List M} {X : XS} {j : Nat} {m : M} {x : HT} {st : List (List HT)} {X' : XS} {l : List HT} {st' : List (List HT)} (h : Ep.replace run ms X j m x st = some (.ok (X',l,st'))) (B : Nat) (hl : ∀ l ∈ st,l.length ≤ B) : st'.length ≤ st.length ∧ ∀ l ∈ st',l.length ≤ B:=by
 cases ht : Ep.takeInv m x st with
 | none => unfold Ep.replace at h; rw [ht] at h; cases h
 | some y =>
  cases y with
  | error e => unfold Ep.replace at h; rw [ht] at h; cases h
  | ok z =>
   obtain ⟨ins,cs,hh,st2⟩:=z
   obtain ⟨X1,q,ra, -, -,hb⟩:=Ep.replace_parts h ht
   have hs : st' = st2:=by
    cases ra with
    | error e => unfold Ep.behind at hb; injection hb with hb; cases hb
    | ok y =>
     obtain ⟨X2,ags⟩:=y
     rw [Ep.behind_ok] at hb
     cases hf : Ep.filled (Ep.pieces m) ags with
     | none => rw [hf] at hb; cases hb
     | some y =>
      cases y with
      | error e => rw [hf] at hb; injection hb with hb; cases hb
      | ok l2 =>
       rw [hf] at hb
       simp only [Option.some.injEq,Except.ok.injEq,Prod.mk.injEq] at hb
       exact hb.2.2.symm
   subst hs
   unfold Ep.takeInv at ht
   split at ht
   ·split at ht
    ·cases ht
    ·split at ht
     ·cases ht
     ·split at ht
      ·cases ht
      ·rename_i hts
       obtain ⟨a,r,rfl, -, -,e⟩:=Ep.takeS_some hts
       split at ht
       ·cases ht
       ·simp only [Option.some.injEq,Except.ok.injEq,Prod.mk.injEq] at ht
        obtain ⟨-, -, -,rfl⟩:=ht
        rw [e]
        exact Ep.drop1_len _ _ B hl
   ·simp only [Option.some.injEq,Except.ok.injEq,Prod.mk.injEq] at ht
    obtain ⟨-, -, -,rfl⟩:=ht
    exact ⟨Nat.le_refl _,hl⟩
end
section
open Go.RowKit Go.Shelf
open Ep (HT XS)
open Mx (M)
section
variable {W W' : World} {o : Option Nat}
def GrT (W : World) (o : Option Nat) : Prop:=∀ B,o = some B → ∃ cs fz,W.heap[B]? = some (.cells cs 314 fz)
theorem GrT.kept (hg : W.grownBy W' o) (ht : GrT W o) {t : TypeId} (h : t ≠ 314) : Kept t W W':=fun b cs fz hb => (hg.block b (lt_of_heap hb) fun e => by
 obtain ⟨ds,fy,h2⟩:=ht b e.symm
 rw [hb] at h2
 cases h2
 exact h rfl).trans hb
theorem GrT.stay (hg : W.grownBy W' o) (ht : GrT W o) : StayX W W':=fun b ob hb hok => (hg.block b (lt_of_heap hb) fun e => by
 obtain ⟨ds,fy,h2⟩:=ht b e.symm
 rw [hb] at h2
 cases h2
 exact hok.2.2.1 rfl).trans hb
theorem Hs.grown {v : Value} {l : List HT} (h : Hs W v l) (hg : W.grownBy W' o) (ht : GrT W o) (ho : ∀ B,o = some B → v.ownBlock ≠ some B) : Hs W' v l:=by
 obtain ⟨ad,cap,rfl,a1,a2,a3⟩:=h
 refine ⟨ad,cap,rfl,a1,a2,fun i x hx => ?_⟩
 obtain ⟨g,q,rfl,⟨ds,fy,hgb⟩,hk,p,c6,c7,hp⟩:=a3 i x hx
 have hb : W'.heap[g]? = W.heap[g]?:=hg.block g (lt_of_heap hgb) fun e => ho g e.symm rfl
 exact ⟨g,q,rfl,⟨ds,fy,hb.trans hgb⟩,hk.kept hb,p,(World.cell?_of_block (a:=⟨g,q + i * 8 + 6,none⟩) hb).trans c6,(World.cell?_of_block (a:=⟨g,q + i * 8 + 7,none⟩) hb).trans c7,hp.keep (GrT.kept hg ht (by decide))⟩
theorem Ls.grown (hg : W.grownBy W' o) (ht : GrT W o) : ∀ {st : List (List HT)} {vs : List Value},Ls W st vs → (∀ B,o = some B → Off B vs) → Ls W' st vs
 | [],_,h,_ => h
 | _ :: _,_,⟨us,v,e,hv,hn,h⟩,ho => ⟨us,v,e,hv.grown hg ht (fun B hB => ho B hB v (by rw [e]; simp)),hn,Ls.grown hg ht h (fun B hB x hx => ho B hB x (by rw [e]; simp [hx]))⟩
theorem Rs.grown {n lb : Nat} {lv : Value} {vs : List Value} {st : List (List HT)} {b : Bool} (h : Rs W n lb lv vs st b) (hg : W.grownBy W' o) (ht : GrT W o) (ho : ∀ B,o = some B → Off B vs) : Rs W' n lb lv vs st b :=
 ⟨GrT.kept hg ht (by decide) _ _ _ h.blk,h.hn,row_keepK h.row (GrT.kept hg ht (by decide)),h.ls.grown hg ht ho⟩
theorem HRow.grT {n : Nat} {v : Value} {l : List HT} (h : HRow W n v l) : GrT W v.ownBlock:=fun B hB => by
 obtain ⟨cs,hr, -⟩:=h
 rcases hr.2 with ⟨h',_⟩ | ⟨g,cap,cur,h',_,h2,_⟩
 ·rw [h'] at hB; cases hB
 ·rw [h'] at hB
  simp only [Value.ownBlock,Option.some.injEq] at hB
  subst hB
  exact ⟨cur,_,h2⟩
theorem HRow.lt {n : Nat} {v : Value} {l : List HT} (h : HRow W n v l) {B : Nat} (hB : v.ownBlock = some B) : n ≤ B ∧ B < W.heap.size:=by
 obtain ⟨cs,hr, -⟩:=h
 exact hr.lt B hB
theorem HRow.only {n B : Nat} {v : Value} {l : List HT} {cs : Array Value} {fz : Nat × Nat} (h : HRow W n v l) (k : Only1 B W W') (hB : W.heap[B]? = some (.cells cs 314 fz)) (ho : v.ownBlock ≠ some B) : HRow W' n v l:=by
 obtain ⟨ds,hr,hcs⟩:=h
 refine ⟨ds,⟨hr.1,?_⟩,hcs.keep (k.kept hB (by decide))⟩
 rcases hr.2 with h' | ⟨g,cap,cur,h',a1,a2,a3⟩
 ·exact .inl h'
 ·exact .inr ⟨g,cap,cur,h',a1,(k g (fun e => ho (by rw [h',← e]; rfl))).trans a2,a3⟩
theorem Fr.grownOwn {x : Bool} {N n e sz m : Nat} {v : Value} {xs : List Value} {w : World} (h : Fr x N n w W) (hr : W.ownsRow w.heap.size e sz v m xs) (hg : W.grownBy W' v.ownBlock) : Fr x N n w W' :=
 ⟨hg.os.trans h.os,hg.tape.trans h.tape,hg.output.trans h.output,Nat.le_trans h.size hg.size,fun b o hb ho => by
  have hlt:=lt_of_heap hb
  refine (hg.block b (by have:=h.size; omega) fun e' => ?_).trans (h.block b o hb ho)
  have:=(hr.lt b e'.symm).1
  omega⟩
end
structure Lp (w0 w W : World) (lb xb mb : Nat) (kb : Nat → Nat) (ms : List M) (X X1 : XS) (st : List (List HT)) (b : Bool) (acc : List HT) (sv : Value) : Prop where
 xm : XM w0 W xb mb kb ms X1
 le : Ep.Le X X1
 fr : Fr true w0.heap.size w.heap.size w W
 rs : ∃ lv vs,Rs W w.heap.size lb lv vs st b ∧ ∀ B,sv.ownBlock = some B → Off B vs
 row : HRow W w.heap.size sv acc
 lens : ∀ l ∈ st,l.length ≤ 1000000
 cnt : st.length ≤ X1.steps + 1
 hw : w0.heap.size ≤ w.heap.size
structure Bx8 (w W : World) (B : Nat) (x : HT) (p : Option Addr) (sv : Value) : Prop where
 blk : W.heap[B]? = some (.cells #[.int .i64 x.t.kind, .string x.t.text, .int .i64 x.t.file, .int .i64 x.t.fr, .int .i64 x.t.en, .bool x.t.bl, .pointer p, .bool x.mark] 314 (0,0))
 hid : HidP W p x.hd
 hB : w.heap.size ≤ B
 off : sv.ownBlock ≠ some B
section
variable {w0 w W W' : World} {lb xb mb B : Nat} {kb : Nat → Nat} {ms : List M} {X X1 X2 : XS} {st st' : List (List HT)} {b b' : Bool} {acc : List HT} {sv sv' : Value} {x y : HT} {p : Option Addr}
theorem Lp.below (h : Lp w0 w W lb xb mb kb ms X X1 st b acc sv) (hb : Below W.heap.size W W') : Lp w0 w W' lb xb mb kb ms X X1 st b acc sv:=by
 obtain ⟨lv,vs,hr,ho⟩:=h.rs
 exact ⟨h.xm.below hb,h.le,h.fr.trans (Fr.of_below hb),⟨lv,vs,hr.below hb,ho⟩,h.row.below hb,h.lens,h.cnt,h.hw⟩
theorem Bx8.below (h : Bx8 w W B x p sv) (hb : Below W.heap.size W W') : Bx8 w W' B x p sv:=⟨(hb.block _ (lt_of_heap h.blk)).trans h.blk,h.hid.keep (Kept.of_below hb _),h.hB,h.off⟩
theorem Bx8.fr {N n : Nat} {z : Bool} (h : Bx8 w W B x p sv) (hf : Fr z N n W W') : Bx8 w W' B x p sv:=⟨hf.ht _ _ _ h.blk,hf.hid h.hid,h.hB,h.off⟩
theorem Lp.append {cs : List Value} {tmp : Obj} {w2 : World} (h : Lp w0 w W lb xb mb kb ms X X1 st b acc sv) (hx : Bx8 w W B x p sv) (hrow : W.ownsRow w.heap.size 314 8 sv acc.length cs) (hcs : HCs W acc cs)
  (hown : w2.ownsRow w.heap.size 314 8 sv' (acc.length + 1) (cs ++ htCells x p)) (hg : (W.alloc tmp).grownBy w2 sv.ownBlock) (hat : ∀ g,sv'.ownBlock = some g → sv.ownBlock = some g ∨ (W.alloc tmp).heap.size ≤ g) :
  Lp w0 w w2 lb xb mb kb ms X X1 st b (acc ++ [x]) sv' ∧ Bx8 w w2 B x p sv':=by
 have hal : Below W.heap.size W (W.alloc tmp):=(Below.refl _ W).alloc (Nat.le_refl _) _
 have h1:=h.below hal
 have hx1:=hx.below hal
 obtain ⟨lv,vs,hr,ho⟩:=h1.rs
 have ht:=h1.row.grT
 have hcs1:=hcs.keep (Kept.of_below hal 379)
 have hrow1:=hrow.alloc tmp
 have hblt : Below w0.heap.size w0 w2:=h1.xm.bl.grown hg h1.xm.bl.size (fun j e => Nat.le_trans h.hw (h1.row.lt e).1)
 have hBw:=lt_of_heap hx.blk
 refine ⟨⟨h1.xm.stay (GrT.stay hg ht) hblt,h.le,h1.fr.grownOwn hrow1 hg,⟨lv,vs,hr.grown hg ht ho,fun g hgg => ?_⟩,⟨_,by rw [List.length_append]; exact hown,(hcs1.keep (GrT.kept hg ht (by decide))).snoc (hx1.hid.keep (GrT.kept hg ht (by decide)))⟩,h.lens,h.cnt,h.hw⟩,⟨?_,hx1.hid.keep (GrT.kept hg ht (by decide)),hx.hB,fun e => ?_⟩⟩
 ·rcases hat g hgg with h2 | h2
  ·exact ho g h2
  ·exact hr.ls.off h2
 ·exact (hg.block B (lt_of_heap hx1.blk) (fun e => hx.off e.symm)).trans hx1.blk
 ·rcases hat B e with h2 | h2
  ·exact hx.off h2
  ·simp at h2; omega
theorem Lp.box (h : Lp w0 w W lb xb mb kb ms X X1 st b acc sv) (o : Obj) : Lp w0 w (W.alloc o) lb xb mb kb ms X X1 st b acc sv ∧ w.heap.size ≤ W.heap.size ∧ sv.ownBlock ≠ some W.heap.size :=
 ⟨h.below ((Below.refl _ W).alloc (Nat.le_refl _) _),h.fr.size,fun e => by have:=(h.row.lt e).2; omega⟩
theorem Lp.nexted {cs : Array Value} {vs0 : List Value} {lv0 : Value} (h : Lp w0 w W lb xb mb kb ms X X1 st b acc sv) (hrs : Rs W w.heap.size lb lv0 vs0 st b) (hoff0 : ∀ g,sv.ownBlock = some g → Off g vs0) (hBx : W.heap[B]? = some (.cells cs 314 (0,0))) (hB : w.heap.size ≤ B) (hsv : sv.ownBlock ≠ some B) (hoffB : Off B vs0)
  (hf : Fr false w0.heap.size w.heap.size W W') (hn : match Ep.next st b with | none => st = [] ∧ ∃ lv',Rs W' w.heap.size lb lv' vs0 [] b | some (y,st') => x = y ∧ ∃ lv' vs',Rs W' w.heap.size lb lv' vs' st' false ∧ Sub vs' vs0) (hp : HidP W' p x.hd)
  {a0 a1 a2 a3 a4 a5 a6 a7 : Value} (hcs : cs = #[a0,a1,a2,a3,a4,a5,a6,a7]) :
  ∃ st2 b2,Lp w0 w (set8 W' B (.int .i64 x.t.kind) (.string x.t.text) (.int .i64 x.t.file) (.int .i64 x.t.fr) (.int .i64 x.t.en) (.bool x.t.bl) (.pointer p) (.bool x.mark)) lb xb mb kb ms X X1 st2 b2 acc sv ∧
   Bx8 w (set8 W' B (.int .i64 x.t.kind) (.string x.t.text) (.int .i64 x.t.file) (.int .i64 x.t.fr) (.int .i64 x.t.en) (.bool x.t.bl) (.pointer p) (.bool x.mark)) B x p sv ∧ (∀ y st',Ep.next st b = some (y,st') → x = y ∧ st2 = st' ∧ b2 = false):=by
 subst hcs
 have hB2:=hf.ht _ _ _ hBx
 have ho:=set8_only W' B (.int .i64 x.t.kind) (.string x.t.text) (.int .i64 x.t.file) (.int .i64 x.t.fr) (.int .i64 x.t.en) (.bool x.t.bl) (.pointer p) (.bool x.mark)
 have hblk:=set8_at hB2 (.int .i64 x.t.kind) (.string x.t.text) (.int .i64 x.t.file) (.int .i64 x.t.fr) (.int .i64 x.t.en) (.bool x.t.bl) (.pointer p) (.bool x.mark)
 have hbl:=set8_below (Below.refl w.heap.size W') hB (.int .i64 x.t.kind) (.string x.t.text) (.int .i64 x.t.file) (.int .i64 x.t.fr) (.int .i64 x.t.en) (.bool x.t.bl) (.pointer p) (.bool x.mark)
 have hfr2 : Fr true w0.heap.size w.heap.size w (set8 W' B (.int .i64 x.t.kind) (.string x.t.text) (.int .i64 x.t.file) (.int .i64 x.t.fr) (.int .i64 x.t.en) (.bool x.t.bl) (.pointer p) (.bool x.mark)):=(h.fr.trans hf.any).set8 hB _ _ _ _ _ _ _ _
 generalize set8 W' B (.int .i64 x.t.kind) (.string x.t.text) (.int .i64 x.t.file) (.int .i64 x.t.fr) (.int .i64 x.t.en) (.bool x.t.bl) (.pointer p) (.bool x.mark) = W2 at ho hblk hbl hfr2 ⊢
 have hxm2 : XM w0 W2 xb mb kb ms X1:=(h.xm.fr hf).stay (StayX.only1 ho hB2 (.inl rfl)) ((h.xm.fr hf).bl.trans (hbl.mono h.hw))
 have hrow2 : HRow W2 w.heap.size sv acc:=(h.row.kept hf.ht hf.nm).only ho hB2 hsv
 have hbx : Bx8 w W2 B x p sv:=⟨hblk,hp.keep (ho.kept hB2 (by decide)),hB,hsv⟩
 cases hnx : Ep.next st b with
 | none =>
  rw [hnx] at hn
  obtain ⟨rfl,lv',hr'⟩:=hn
  exact ⟨[],b,⟨hxm2,h.le,hfr2,⟨lv',vs0,hr'.only ho hB2 hoffB,hoff0⟩,hrow2,(fun l hl => by cases hl),Nat.zero_le _,h.hw⟩,hbx,(fun y st' e => by cases e)⟩
 | some z =>
  obtain ⟨y,st'⟩:=z
  rw [hnx] at hn
  obtain ⟨hxy,lv',vs',hr',hsub⟩:=hn
  obtain ⟨l1,l2⟩:=Ep.next_len hnx 1000000 h.lens
  refine ⟨st',false,⟨hxm2,h.le,hfr2,⟨lv',vs',hr'.only ho hB2 (hsub.off hoffB),fun g hg => hsub.off (hoff0 g hg)⟩,hrow2,l2,by have:=h.cnt; omega,h.hw⟩,hbx,fun y2 st2 e => ?_⟩
  simp only [Option.some.injEq,Prod.mk.injEq] at e
  exact ⟨hxy.trans e.1,e.2,rfl⟩
end
end
section
open Go.RowKit Go.Shelf
open Ep (HT XS)
open Mx (M)
theorem Ep.advance {ms : List M} {f k : Nat} {X : XS} {st st2 : List (List HT)} {b b2 : Bool} {r : Except Int (XS × List HT)} {y : HT} (hrun : Ep.run ms f k X st b = some r) (h6 : ∀ y' st',Ep.next st b = some (y',st') → y = y' ∧ st2 = st' ∧ b2 = false) :
  (Value.bool (Ep.next st b).isSome = .bool false ∧ r = .ok (X,[])) ∨ ∃ f',Value.bool (Ep.next st b).isSome = .bool true ∧ f' < f ∧ b2 = false ∧ Ep.go ms f' k X y st2 = some r:=by
 cases f with
 | zero => cases hrun
 | succ f =>
  rw [Ep.run_next] at hrun
  cases hn : Ep.next st b with
  | none =>
   rw [hn] at hrun
   injection hrun with hrun
   exact .inl ⟨rfl,hrun.symm⟩
  | some z =>
   obtain ⟨y',st'⟩:=z
   rw [hn] at hrun
   obtain ⟨e1,e2,e3⟩:=h6 y' st' hn
   subst e1 e2
   exact .inr ⟨f,rfl,Nat.lt_succ_self f,e3,hrun⟩
theorem Ep.macroOf_some {ms : List M} {X : XS} {x : HT} {j : Nat} (h : Ep.macroOf ms X x = some j) : ∃ m,ms[j]? = some m ∧ Ep.ixOf m.name ms 0 = some j:=by
 unfold Ep.macroOf at h
 split at h
 ·cases hi : Ep.ixOf x.t.text ms 0 with
  | none => rw [hi] at h; cases h
  | some i =>
   rw [hi] at h
   dsimp only at h
   have hij : i = j:=by
    cases hq : Ep.planIx i X.pl 0 with
    | none => rw [hq] at h; injection h
    | some q =>
     rw [hq] at h
     dsimp only at h
     split at h
     ·cases h
     ·injection h
   subst hij
   obtain ⟨m,h1,h2⟩:=Ep.ixOf_some hi
   exact ⟨m,h1,by rw [h2]; exact hi⟩
 ·cases h
theorem Ep.go_stays {ms : List M} {n k : Nat} {X : XS} {x : HT} {st : List (List HT)} {r : Except Int (XS × List HT)} (h : Ep.go ms n k X x st = some r) (hm : Ep.macroOf ms X x = none) (acc : List HT) :
  k < 4000 ∧ ∃ r2,Ep.run ms n (k + 1) X st false = some r2 ∧ Ep.joinR acc r = Ep.joinR (acc ++ [x]) r2:=by
 unfold Ep.go at h
 split at h
 ·cases h
 ·rw [hm] at h
  dsimp only at h
  split at h
  ·rename_i hk
   exact ⟨hk,Ep.stays_some h acc⟩
  ·cases h
theorem Ep.go_call {ms : List M} {n k j : Nat} {X : XS} {x : HT} {st : List (List HT)} {r : Except Int (XS × List HT)} {m : M} (h : Ep.go ms n k X x st = some r) (hm : Ep.macroOf ms X x = some j) (hj : ms[j]? = some m) (acc : List HT) :
  ((m.fn && !Ep.opens st) = true ∧ k < 4000 ∧ ∃ r2,Ep.run ms n (k + 1) X st false = some r2 ∧ Ep.joinR acc r = Ep.joinR (acc ++ [x]) r2) ∨
   ((m.fn && !Ep.opens st) = false ∧ ∃ rr,Ep.replace (fun X l => Ep.run ms n 0 X (Ep.put l false []).1 false) ms X j m x st = some rr ∧
    match rr with
    | .error e => r = .error e
    | .ok (X',l,st'') => Ep.run ms n k X' (Ep.put l x.t.bl st'').1 (Ep.put l x.t.bl st'').2 = some r):=by
 unfold Ep.go at h
 split at h
 ·cases h
 ·rw [hm] at h
  dsimp only at h
  rw [hj] at h
  dsimp only at h
  split at h
  ·rename_i hc
   split at h
   ·rename_i hk
    exact .inl ⟨hc,hk,Ep.stays_some h acc⟩
   ·cases h
  ·rename_i hc
   right
   refine ⟨by simpa using hc,?_⟩
   cases hr : Ep.replace (fun X l => Ep.run ms n 0 X (Ep.put l false []).1 false) ms X j m x st with
   | none => rw [hr] at h; cases h
   | some rr =>
    rw [hr] at h
    refine ⟨rr,rfl,?_⟩
    cases rr with
    | error e => injection h with h; exact h.symm
    | ok z => exact h
section
variable {w0 w W W' : World} {lb xb mb B : Nat} {kb : Nat → Nat} {ms : List M} {X X1 X2 : XS} {st st' : List (List HT)} {b b' : Bool} {acc l : List HT} {sv v : Value} {x : HT} {p : Option Addr}
theorem Lp.putted {vs : List Value} (h : Lp w0 w W lb xb mb kb ms X X1 st false acc sv) (hoff : ∀ g,sv.ownBlock = some g → Off g vs) (hpost : PutPost w0.heap.size w.heap.size lb (Ep.put l b' st) vs v W (.returned (.tuple #[])) W') (hv : ∀ g,sv.ownBlock = some g → v.ownBlock ≠ some g)
  (hl : l.length ≤ 1000000) (hcnt : st.length + 1 ≤ X1.steps + 1) : Lp w0 w W' lb xb mb kb ms X X1 (Ep.put l b' st).1 (Ep.put l b' st).2 acc sv ∧ (∀ {B x p},Bx8 w W B x p sv → Bx8 w W' B x p sv):=by
 obtain ⟨-,⟨lv',vs',hr,hvs⟩,hf⟩:=hpost
 obtain ⟨l1,l2⟩:=Ep.put_len l b' st
 refine ⟨⟨h.xm.fr hf,h.le,h.fr.trans hf.any,⟨lv',vs',hr,fun g hg => hvs g (hoff g hg) (hv g hg)⟩,h.row.kept hf.ht hf.nm,fun y hy => ?_,by omega,h.hw⟩,fun hb => hb.fr hf⟩
 rcases l2 y hy with rfl | hy
 ·exact hl
 ·exact h.lens y hy
theorem Lp.first {vs0 : List Value} (h : Lp w0 w W lb xb mb kb ms X X1 st b acc sv) (hoff0 : ∀ g,sv.ownBlock = some g → Off g vs0)
  (hf : Fr false w0.heap.size w.heap.size W W') (hn : match Ep.next st b with | none => st = [] ∧ ∃ lv',Rs W' w.heap.size lb lv' vs0 [] b | some (y,st') => x = y ∧ ∃ lv' vs',Rs W' w.heap.size lb lv' vs' st' false ∧ Sub vs' vs0) (hp : HidP W' p x.hd) :
  ∃ st2 b2,Lp w0 w (W'.alloc (.cells #[.int .i64 x.t.kind, .string x.t.text, .int .i64 x.t.file, .int .i64 x.t.fr, .int .i64 x.t.en, .bool x.t.bl, .pointer p, .bool x.mark] 314)) lb xb mb kb ms X X1 st2 b2 acc sv ∧
   Bx8 w (W'.alloc (.cells #[.int .i64 x.t.kind, .string x.t.text, .int .i64 x.t.file, .int .i64 x.t.fr, .int .i64 x.t.en, .bool x.t.bl, .pointer p, .bool x.mark] 314)) W'.heap.size x p sv ∧ (∀ y st',Ep.next st b = some (y,st') → x = y ∧ st2 = st' ∧ b2 = false):=by
 have hal : Below W'.heap.size W' (W'.alloc (.cells #[.int .i64 x.t.kind, .string x.t.text, .int .i64 x.t.file, .int .i64 x.t.fr, .int .i64 x.t.en, .bool x.t.bl, .pointer p, .bool x.mark] 314)):=(Below.refl _ W').alloc (Nat.le_refl _) _
 have hblk:=heap_alloc_new W' (.cells #[.int .i64 x.t.kind, .string x.t.text, .int .i64 x.t.file, .int .i64 x.t.fr, .int .i64 x.t.en, .bool x.t.bl, .pointer p, .bool x.mark] 314)
 have hrow2:=h.row.kept hf.ht hf.nm
 have hbx : Bx8 w (W'.alloc (.cells #[.int .i64 x.t.kind, .string x.t.text, .int .i64 x.t.file, .int .i64 x.t.fr, .int .i64 x.t.en, .bool x.t.bl, .pointer p, .bool x.mark] 314)) W'.heap.size x p sv :=
  ⟨hblk,hp.keep (Kept.of_below hal _),(h.fr.trans hf.any).size,fun e => by have:=(hrow2.lt e).2; omega⟩
 have hfr:=h.fr.trans hf.any
 cases hnx : Ep.next st b with
 | none =>
  rw [hnx] at hn
  obtain ⟨rfl,lv',hr'⟩:=hn
  have hL : Lp w0 w W' lb xb mb kb ms X X1 [] b acc sv:=⟨h.xm.fr hf,h.le,hfr,⟨lv',vs0,hr',hoff0⟩,hrow2,(fun l hl => by cases hl),Nat.zero_le _,h.hw⟩
  exact ⟨[],b,hL.below hal,hbx,(fun y st' e => by cases e)⟩
 | some z =>
  obtain ⟨y,st'⟩:=z
  rw [hnx] at hn
  obtain ⟨hxy,lv',vs',hr',hsub⟩:=hn
  obtain ⟨l1,l2⟩:=Ep.next_len hnx 1000000 h.lens
  have hL : Lp w0 w W' lb xb mb kb ms X X1 st' false acc sv:=⟨h.xm.fr hf,h.le,hfr,⟨lv',vs',hr',fun g hg => hsub.off (hoff0 g hg)⟩,hrow2,l2,by have:=h.cnt; omega,h.hw⟩
  refine ⟨st',false,hL.below hal,hbx,fun y2 st2 e => ?_⟩
  simp only [Option.some.injEq,Prod.mk.injEq] at e
  exact ⟨hxy.trans e.1,e.2,rfl⟩
end
noncomputable def runBody : Code:=Tryz.f150.body.getD .skip
theorem run_end (w0 w W : World) (lb xb mb : Nat) (kb : Nat → Nat) (ms : List M) (X X1 : XS) (st : List (List HT)) (b : Bool) (acc : List HT) (sv : Value) c0 c1 c2 c3 c4 c5 c7 c8 c9 c10 c11 c12 c13 c14 c15 c16 c17 c18 c19 c20 c21 c22 c23 c24 c25 c26 c27 c28 c29 c30 c31 c32 c33 c34 c35 c36 c37 c38 c39 c40 c41 c42 c43 c44 c45 c46 c47 c48 c49 c50 c51 c52 c53 c54 c55 c56 c57 c58 c59 c60 c61 c62 c63 c64 c65 c66 (h : Lp w0 w W lb xb mb kb ms X X1 st b acc sv) (ha : acc.length ≤ 4000) (r : Except Int (XS × List HT)) (hr : r = Ep.joinR acc (.ok (X1,[]))) :
  Code.wp Tryz.prog (secs 5 runBody) (bodyPost Tryz.prog Tryz.f150 (RunPost w0 w xb mb kb ms X r)) ⟨#[c0,c1,c2,c3,c4,c5,sv,c7,c8,c9,c10,c11,c12,c13,c14,c15,c16,c17,c18,c19,c20,c21,c22,c23,c24,c25,c26,c27,c28,c29,c30,c31,c32,c33,c34,c35,c36,c37,c38,c39,c40,c41,c42,c43,c44,c45,c46,c47,c48,c49,c50,c51,c52,c53,c54,c55,c56,c57,c58,c59,c60,c61,c62,c63,c64,c65,c66],[]⟩ W:=by
 obtain ⟨ad,cap,rfl, -, -⟩:=h.row.hs.form
 have hfin : RunPost w0 w xb mb kb ms X r (.returned (.tuple #[.slice ad acc.length cap, .int .i64 0])) W:=by
  rw [hr]
  show RunPost w0 w xb mb kb ms X (.ok (X1,acc ++ [])) _ W
  rw [List.append_nil]
  exact ⟨h.fr,⟨_,rfl,h.row.hs⟩,ha,h.xm,h.le⟩
 have HF:=Lib.hid hfin
 clear hfin h hr
 have z : ¬ (4000 : Int) < acc.length:=by omega
 have z2 : ¬ 4000 < acc.length:=by omega
 refine wp_sec 5 runBody rfl ?_
 conv => arg 2; whnf
 go_wp2_with fail
 refine wp_sec 6 runBody rfl ?_
 conv => arg 2; whnf
 go_wp2_with fail
 conv => arg 2; whnf
 go_wp2_with fail
 go_ret2
 exact HF.out
theorem erun_step (w0 : World) (xb mb : Nat) (kb : Nat → Nat) (ms : List M) (hG : Glob w0) (hms : ∀ m ∈ ms,MOk m) (n : Nat) (ih : ∀ k,k < n → RunAny w0 xb mb kb ms (fun X l => Ep.run ms k 0 X (Ep.put l false []).1 false)) :
  RunAny w0 xb mb kb ms (fun X l => Ep.run ms n 0 X (Ep.put l false []).1 false):=by
 intro X l v w r hX hv hl hr
 obtain ⟨i0,hi,hz0,hz1,hz2⟩:=info_parts infoHt
 have hw:=hX.bl.size
 dsimp only at hr
 have hpb : (Ep.put l false []).2 = false:=by unfold Ep.put; split <;> rfl
 have hal : Below w.heap.size w (w.alloc (.cells #[.slice none 0 0, .bool false] 310)):=(Below.refl _ w).alloc (Nat.le_refl _) _
 have hrb:=heap_alloc_new w (.cells #[.slice none 0 0, .bool false] 310)
 have hrs : Rs (w.alloc (.cells #[.slice none 0 0, .bool false] 310)) w.heap.size w.heap.size (.slice none 0 0) [] [] false:=⟨hrb,Nat.le_refl _,World.ownsRow_nil _ _ _ _,rfl⟩
 have hL0 : Lp w0 w (w.alloc (.cells #[.slice none 0 0, .bool false] 310)) w.heap.size xb mb kb ms X X [] false [] (.slice none 0 0) :=
  ⟨hX.below hal,Ep.Le.refl _,Fr.of_below hal,⟨_,_,hrs,fun B hB => by cases hB⟩,HRow.nil _ _,(fun l hl => by cases hl),Nat.zero_le _,hw⟩
 have KP:=Lib.hid (eput2_any w0.heap.size w.heap.size w.heap.size _ _ _ v l false _ hrs (hv.below hal) hw (by simp))
 have HL0:=Lib.hid hL0
 have HR:=Lib.hid hr
 have IH:=Lib.hid ih
 have HMS:=Lib.hid hms
 have HP:=Lib.hid hpb
 clear hX hv hr ih hms hal hrb hrs hL0 hpb
 obtain ⟨lb,hlb⟩ : ∃ lb,lb = w.heap.size:=⟨_,rfl⟩
 have HLB:=Lib.hid hlb
 go_enter Tryz.func150,Tryz.ntmps150
 show Code.wp Tryz.prog (secs 0 runBody) _ _ _
 refine wp_sec 0 runBody rfl ?_
 conv => arg 2; whnf
 go_wp2_with fail
 refine wp_sec 1 runBody rfl ?_
 conv => arg 2; whnf
 go_wp2_with fail
 refine wp_sec 2 runBody rfl ?_
 conv => arg 2; whnf
 go_wp2_with fail
 generalize (w.alloc (.cells #[.slice none 0 0, .bool false] 310)) = W1 at KP HL0 ⊢
 refine wp_sec 3 runBody rfl ?_
 conv => arg 2; whnf
 go_wp2_with fail
 refine KP.out.mono ?_
 rintro e2 W2 hpp
 obtain rfl:=hpp.1
 have hL2:=(HL0.out.putted (fun B hB => by cases hB) hpp (fun B hB => by cases hB) hl (by simp)).1
 rw [HP.out] at hL2
 obtain ⟨lv2,vs2,hr2,hoff2⟩:=id hL2.rs
 have KN:=Lib.hid (enext_any w0.heap.size w.heap.size w.heap.size lv2 vs2 _ false W2 hr2 hw hL2.lens (by have:=hL2.cnt; have:=hL2.xm.st; omega))
 have HL2:=Lib.hid hL2
 have HO2:=Lib.hid hoff2
 clear hpp hL2 hr2 hoff2
 go_wp2_with fail
 refine wp_sec 4 runBody rfl ?_
 conv => arg 2; whnf
 go_wp2_with fail
 refine KN.out.mono ?_
 rintro e3 W3 ⟨x,p,rfl,hp3,hf3,hn3⟩
 obtain ⟨st3,b3,hL3,hB3,h3⟩:=HL2.out.first HO2.out hf3 hn3 hp3
 have hadv:=Ep.advance HR.out h3
 have HL3:=Lib.hid hL3
 have HB3:=Lib.hid hB3
 have HADV:=Lib.hid hadv
 clear hp3 hf3 hn3 hL3 hB3 h3 hadv
 generalize hok : (Ep.next (Ep.put l false []).1 false).isSome = okb at HADV ⊢
 clear hok
 obtain ⟨⟨kd,tx,fl,fr,en,bl⟩,hd,mk⟩:=x
 dsimp only [htAgg] at HL3 HB3 ⊢
 go_wp2_with fail
 go_loopg [6,8,9] n (fun g sv tb ok wr => ∃ (X1 : XS) (st : List (List HT)) (b : Bool) (acc : List HT) (B : Nat) (x : HT) (p : Option Addr) (r' : Except Int (XS × List HT)),tb = .pointer (some ⟨B,0,none⟩) ∧ Lp w0 w wr w.heap.size xb mb kb ms X X1 st b acc sv ∧ Bx8 w wr B x p sv ∧ acc.length ≤ 4000 ∧ r = Ep.joinR acc r' ∧
  ((ok = .bool false ∧ r' = .ok (X1,[])) ∨ ∃ f,ok = .bool true ∧ f < g ∧ g ≤ n ∧ b = false ∧ Ep.go ms f acc.length X1 x st = some r'))
 case atStart =>
  refine ⟨X,st3,b3,[],_,_,p,r,rfl,HL3.out,HB3.out,Nat.zero_le _,by cases r with | error e => rfl | ok y => rfl,?_⟩
  rcases HADV.out with h | ⟨f',h1,h2,h3,h4⟩
  ·exact .inl h
  ·exact .inr ⟨f',h1,h2,Nat.le_refl _,h3,h4⟩
 case round =>
  obtain ⟨X1,st,b,acc,B,x,p,r',rfl,hL,hB,hacc,hjoin,hok⟩:=hrel
  rcases hok with ⟨rfl,hr'⟩ | ⟨f,rfl,hfg,hgn,rfl,hgo⟩
  ·subst hr'
   have HL:=Lib.hid hL
   have HJ:=Lib.hid hjoin
   clear hL hB hjoin
   go_wp2_with fail
   exact run_end w0 w wr w.heap.size xb mb kb ms X X1 st b acc _ _ _ _ _ _ _ _ _ _ _ _ _ _ _ _ _ _ _ _ _ _ _ _ _ _ _ _ _ _ _ _ _ _ _ _ _ _ _ _ _ _ _ _ _ _ _ _ _ _ _ _ _ _ _ _ _ _ _ _ _ _ _ _ _ _ _ HL.out hacc r HJ.out
  ·have KM:=Lib.hid (emacroOf_any w0 xb mb kb ms X1 x p wr hL.xm hB.hid)
   obtain ⟨b0,b1,b2,b3,b4,b5,b6,b7, -⟩:=box8_cells hB.blk
   have HL:=Lib.hid hL
   have HB:=Lib.hid hB
   have HJ:=Lib.hid hjoin
   have HGO:=Lib.hid hgo
   clear hL hB hjoin hgo
   go_wp2_with fail
   refine KM.out.mono ?_
   rintro e5 W5 ⟨rfl,hb5⟩
   have HL5:=Lib.hid (HL.out.below hb5)
   have HB5:=Lib.hid (HB.out.below hb5)
   clear hb5 b0 b1 b2 b3 b4 b5 b6 b7
   cases hmo : Ep.macroOf ms X1 x with
   | none =>
    rw [Option.map_none]
    obtain ⟨hk4,r2,hr2,hj2⟩:=Ep.go_stays HGO.out hmo acc
    have HS:=Lib.hid (And.intro hr2 hj2)
    clear hmo hr2 hj2
    obtain ⟨cs,hrow,hcs⟩:=id HL5.out.row
    have hvb:=HL5.out.fr.size
    obtain ⟨ad,cap,hsv, -, -⟩:=HL5.out.row.hs.form
    obtain ⟨b0,b1,b2,b3,b4,b5,b6,b7, -⟩:=box8_cells HB5.out.blk
    have HCS:=Lib.hid (And.intro hrow hcs)
    have hal : Below W5.heap.size W5 (W5.alloc (.cells #[.int .i64 x.t.kind, .string x.t.text, .int .i64 x.t.file, .int .i64 x.t.fr, .int .i64 x.t.en, .bool x.t.bl, .pointer p, .bool x.mark] 314)):=(Below.refl _ W5).alloc (Nat.le_refl _) _
    have zz : (acc.length : Int) ≤ 4000:=by omega
    subst hsv
    go_wp2_with (at_builtin; refine wpList_append_lies _ rfl _ _ 267 rfl w.heap.size 314 i0 _ 8 72 Tryz.underlying267 hi hz0 hz1 hz2 rfl (by decide) _ acc.length cs rfl (hrow.alloc _) ⟨W5.heap.size,0,none⟩ 1 1 (htCells x p) rfl rfl (World.news_of_block (cs:=#[.int .i64 x.t.kind, .string x.t.text, .int .i64 x.t.file, .int .i64 x.t.fr, .int .i64 x.t.en, .bool x.t.bl, .pointer p, .bool x.mark]) (t:=314) (fr:=(0,0)) (heap_alloc_new W5 _)) (by simp [Value.oneCell',htCells,kCells]) (by decide) (by unfold maxLen; omega) (by omega) (by simp; omega) _ rfl ?_; intro gg cap' V hown hgrow hat hlt2; have hap:=HL5.out.append HB5.out HCS.out.1 HCS.out.2 hown hgrow (fun g hg => by rcases hat with h | h; exact .inl (by injection hg with hg; rw [← hg]; exact h); exact .inr (by injection hg with hg; rw [← hg,h]; exact Nat.le_refl _)); have HLV:=Lib.hid hap.1; have HBV:=Lib.hid hap.2; obtain ⟨b0,b1,b2,b3,b4,b5,b6,b7, -⟩:=box8_cells HBV.out.blk)
    have HRV:=HS
    clear hal
    obtain ⟨lvA,vsA,hrA,hoffA⟩:=id HLV.out.rs
    have hBoff:=hrA.ls.off (Nat.le_refl _)
    obtain ⟨hLB,hBge,hBsv⟩:=HLV.out.box (.cells #[.int .i64 x.t.kind, .string x.t.text, .int .i64 x.t.file, .int .i64 x.t.fr, .int .i64 x.t.en, .bool x.t.bl, .pointer p, .bool x.mark] 314)
    have hrB:=hrA.below ((Below.refl _ V).alloc (Nat.le_refl _) (.cells #[.int .i64 x.t.kind, .string x.t.text, .int .i64 x.t.file, .int .i64 x.t.fr, .int .i64 x.t.en, .bool x.t.bl, .pointer p, .bool x.mark] 314))
    have hblkB:=heap_alloc_new V (.cells #[.int .i64 x.t.kind, .string x.t.text, .int .i64 x.t.file, .int .i64 x.t.fr, .int .i64 x.t.en, .bool x.t.bl, .pointer p, .bool x.mark] 314)
    have KNA:=Lib.hid (enext_any w0.heap.size w.heap.size w.heap.size lvA vsA st false _ hrB hw hLB.lens (by have:=hLB.cnt; have:=hLB.xm.st; omega))
    obtain ⟨b0,b1,b2,b3,b4,b5,b6,b7, -⟩:=box8_cells HBV.out.blk
    have HLB:=Lib.hid hLB
    have HRB:=Lib.hid (And.intro hrB hoffA)
    have HBB:=Lib.hid (And.intro hblkB (And.intro hBge (And.intro hBsv hBoff)))
    clear hrA hoffA hBoff hLB hBge hBsv hrB hblkB
    go_wp2_with fail
    refine KNA.out.mono ?_
    rintro e9 W9 ⟨y,q,rfl,hq9,hf9,hn9⟩
    have hblk9:=hf9.ht _ _ _ HBB.out.1
    obtain ⟨st9,bb9,hL9,hB9,h9⟩:=Lp.nexted HLB.out HRB.out.1 HRB.out.2 HBB.out.1 HBB.out.2.1 HBB.out.2.2.1 HBB.out.2.2.2 hf9 hn9 hq9 rfl
    have hadv:=Ep.advance HRV.out.1 h9
    have HL9:=Lib.hid hL9
    have HB9:=Lib.hid hB9
    have HADV9:=Lib.hid hadv
    obtain ⟨v0,v1,v2,v3,v4,v5,v6,v7,vf⟩:=box8_cells hblk9
    clear hq9 hf9 hn9 hblk9 hL9 hB9 h9 hadv b0 b1 b2 b3 b4 b5 b6 b7
    generalize (Ep.next st false).isSome = okb at HADV9 ⊢
    obtain ⟨⟨kd9,tx9,fl9,fr9,en9,bl9⟩,hd9,mk9⟩:=y
    dsimp only [htAgg] at HL9 HB9 ⊢
    unfold set8 at HL9 HB9
    go_wp2_with fail
    go_roundg f
    case measure => omega
    case rel =>
     refine ⟨X1,st9,bb9,acc ++ [x],_,_,q,r2,rfl,HL9.out,HB9.out,by simp; omega,HJ.out.trans HRV.out.2,?_⟩
     rcases HADV9.out with h | ⟨f',h1,h2,h3,h4⟩
     ·exact .inl h
     ·exact .inr ⟨f',h1,h2,by omega,h3,by rw [List.length_append]; exact h4⟩
   | some j =>
    rw [Option.map_some]
    obtain ⟨m,hj,hj'⟩:=Ep.macroOf_some hmo
    have hmok:=HMS.out m (List.mem_of_getElem? hj)
    obtain ⟨pv,bv,pp,hkb, -⟩:=HL5.out.xm.kn j m hj hj'
    obtain ⟨-,k1, -⟩:=box6_cells hkb
    have hcall:=Ep.go_call HGO.out hmo hj acc
    have HJJ:=Lib.hid (And.intro hj hj')
    obtain ⟨lv5,vs5,hr5,hoff5⟩:=HL5.out.rs
    have KO:=Lib.hid (eopens_any w.heap.size w.heap.size lv5 vs5 st false W5 hr5 (by have:=HL5.out.cnt; have:=HL5.out.xm.st; omega))
    clear hmo hj hj' hkb hr5 hoff5
    rcases hcall with ⟨hc,hk4,r2,hr2,hj2⟩ | ⟨hc,rr,hrr,hcont⟩
    ·obtain ⟨hf1,hop⟩ : m.fn = true ∧ Ep.opens st = false:=by simpa using hc
     rw [hf1] at k1
     rw [hop] at KO
     have HS:=Lib.hid (And.intro hr2 hj2)
     clear hr2 hj2 hc
     go_wp2_with fail
     refine KO.out.mono ?_
     rintro e6 W6 ⟨rfl,hb6⟩
     have HL6:=Lib.hid (HL5.out.below hb6)
     have HB6:=Lib.hid (HB5.out.below hb6)
     clear hb6 k1
     obtain ⟨cs,hrow,hcs⟩:=id HL6.out.row
     have hvb:=HL6.out.fr.size
     obtain ⟨ad,cap,hsv, -, -⟩:=HL6.out.row.hs.form
     obtain ⟨b0,b1,b2,b3,b4,b5,b6,b7, -⟩:=box8_cells HB6.out.blk
     have HCS:=Lib.hid (And.intro hrow hcs)
     have hal : Below W6.heap.size W6 (W6.alloc (.cells #[.int .i64 x.t.kind, .string x.t.text, .int .i64 x.t.file, .int .i64 x.t.fr, .int .i64 x.t.en, .bool x.t.bl, .pointer p, .bool x.mark] 314)):=(Below.refl _ W6).alloc (Nat.le_refl _) _
     have zz : (acc.length : Int) ≤ 4000:=by omega
     subst hsv
     go_wp2_with (at_builtin; refine wpList_append_lies _ rfl _ _ 267 rfl w.heap.size 314 i0 _ 8 72 Tryz.underlying267 hi hz0 hz1 hz2 rfl (by decide) _ acc.length cs rfl (hrow.alloc _) ⟨W6.heap.size,0,none⟩ 1 1 (htCells x p) rfl rfl (World.news_of_block (cs:=#[.int .i64 x.t.kind, .string x.t.text, .int .i64 x.t.file, .int .i64 x.t.fr, .int .i64 x.t.en, .bool x.t.bl, .pointer p, .bool x.mark]) (t:=314) (fr:=(0,0)) (heap_alloc_new W6 _)) (by simp [Value.oneCell',htCells,kCells]) (by decide) (by unfold maxLen; omega) (by omega) (by simp; omega) _ rfl ?_; intro gg cap' V hown hgrow hat hlt2; have hap:=HL6.out.append HB6.out HCS.out.1 HCS.out.2 hown hgrow (fun g hg => by rcases hat with h | h; exact .inl (by injection hg with hg; rw [← hg]; exact h); exact .inr (by injection hg with hg; rw [← hg,h]; exact Nat.le_refl _)); have HLV:=Lib.hid hap.1; have HBV:=Lib.hid hap.2; obtain ⟨b0,b1,b2,b3,b4,b5,b6,b7, -⟩:=box8_cells HBV.out.blk)
     have HRV:=HS
     clear hal
     obtain ⟨lvA,vsA,hrA,hoffA⟩:=id HLV.out.rs
     have hBoff:=hrA.ls.off (Nat.le_refl _)
     obtain ⟨hLB,hBge,hBsv⟩:=HLV.out.box (.cells #[.int .i64 x.t.kind, .string x.t.text, .int .i64 x.t.file, .int .i64 x.t.fr, .int .i64 x.t.en, .bool x.t.bl, .pointer p, .bool x.mark] 314)
     have hrB:=hrA.below ((Below.refl _ V).alloc (Nat.le_refl _) (.cells #[.int .i64 x.t.kind, .string x.t.text, .int .i64 x.t.file, .int .i64 x.t.fr, .int .i64 x.t.en, .bool x.t.bl, .pointer p, .bool x.mark] 314))
     have hblkB:=heap_alloc_new V (.cells #[.int .i64 x.t.kind, .string x.t.text, .int .i64 x.t.file, .int .i64 x.t.fr, .int .i64 x.t.en, .bool x.t.bl, .pointer p, .bool x.mark] 314)
     have KNA:=Lib.hid (enext_any w0.heap.size w.heap.size w.heap.size lvA vsA st false _ hrB hw hLB.lens (by have:=hLB.cnt; have:=hLB.xm.st; omega))
     obtain ⟨b0,b1,b2,b3,b4,b5,b6,b7, -⟩:=box8_cells HBV.out.blk
     have HLB:=Lib.hid hLB
     have HRB:=Lib.hid (And.intro hrB hoffA)
     have HBB:=Lib.hid (And.intro hblkB (And.intro hBge (And.intro hBsv hBoff)))
     clear hrA hoffA hBoff hLB hBge hBsv hrB hblkB
     go_wp2_with fail
     refine KNA.out.mono ?_
     rintro e9 W9 ⟨y,q,rfl,hq9,hf9,hn9⟩
     have hblk9:=hf9.ht _ _ _ HBB.out.1
     obtain ⟨st9,bb9,hL9,hB9,h9⟩:=Lp.nexted HLB.out HRB.out.1 HRB.out.2 HBB.out.1 HBB.out.2.1 HBB.out.2.2.1 HBB.out.2.2.2 hf9 hn9 hq9 rfl
     have hadv:=Ep.advance HRV.out.1 h9
     have HL9:=Lib.hid hL9
     have HB9:=Lib.hid hB9
     have HADV9:=Lib.hid hadv
     obtain ⟨v0,v1,v2,v3,v4,v5,v6,v7,vf⟩:=box8_cells hblk9
     clear hq9 hf9 hn9 hblk9 hL9 hB9 h9 hadv b0 b1 b2 b3 b4 b5 b6 b7
     generalize (Ep.next st false).isSome = okb at HADV9 ⊢
     obtain ⟨⟨kd9,tx9,fl9,fr9,en9,bl9⟩,hd9,mk9⟩:=y
     dsimp only [htAgg] at HL9 HB9 ⊢
     unfold set8 at HL9 HB9
     go_wp2_with fail
     go_roundg f
     case measure => omega
     case rel =>
      refine ⟨X1,st9,bb9,acc ++ [x],_,_,q,r2,rfl,HL9.out,HB9.out,by simp; omega,HJ.out.trans HRV.out.2,?_⟩
      rcases HADV9.out with h | ⟨f',h1,h2,h3,h4⟩
      ·exact .inl h
      ·exact .inr ⟨f',h1,h2,by omega,h3,by rw [List.length_append]; exact h4⟩
    ·have HRR:=Lib.hid hrr
     have HCO:=Lib.hid hcont
     have hc2 : m.fn = false ∨ (m.fn = true ∧ Ep.opens st = true):=by
      cases hf1 : m.fn with
      | false => exact .inl rfl
      | true => rw [hf1] at hc; exact .inr ⟨rfl,by simpa using hc⟩
     clear hrr hcont hc
     rcases hc2 with hf1 | ⟨hf1,hop⟩
     ·rw [hf1] at k1
      obtain ⟨b0,b1,b2,b3,b4,b5,b6,b7, -⟩:=box8_cells HB5.out.blk
      obtain ⟨lvR,vsR,hrR,hoffR⟩:=HL5.out.rs
      have KRR:=Lib.hid (ereplace_any w0 w.heap.size w.heap.size xb mb kb ms _ (IH.out f (by omega)) X1 st lvR vsR x p j m W5 HL5.out.xm hrR HB5.out.hid hw hG hmok HJJ.out.1 HJJ.out.2 rr HRR.out)
      have HOR:=Lib.hid hoffR
      clear hrR hoffR
      go_wp2_with fail
      refine KRR.out.mono ?_
      rintro e7 W7 ⟨hf7,hr7⟩
      have hfr7:=HL5.out.fr.trans hf7
      have HB7:=Lib.hid (HB5.out.fr hf7)
      have HROW7:=Lib.hid (HL5.out.row.kept hf7.ht hf7.nm)
      have HFR7:=Lib.hid hfr7
      clear hf7 hfr7 b0 b1 b2 b3 b4 b5 b6 b7
      cases rr with
      | error ek =>
       obtain ⟨rfl,hk0⟩:=hr7
       have hfin : RunPost w0 w xb mb kb ms X r (.returned (.tuple #[.slice none 0 0, .int .i64 ek])) W7:=by
        have he:=HCO.out
        dsimp only at he
        rw [HJ.out,he]
        exact ⟨HFR7.out,rfl,hk0⟩
       have HF:=Lib.hid hfin
       have q0 : ¬ (ek = 0):=hk0
       clear hfin
       go_wp2_with fail
       go_ret2
       exact HF.out
      | ok z =>
       obtain ⟨X2,l2,st2⟩:=z
       obtain ⟨⟨v7,rfl,hv7,hvb⟩,hl2,hx7,hle7,hst7,lv7,vs7,hr8,hsub7⟩:=hr7
       obtain ⟨d1,d2⟩:=Ep.replace_len HRR.out 1000000 HL5.out.lens
       have hL7 : Lp w0 w W7 w.heap.size xb mb kb ms X X2 st2 false acc _:=⟨hx7,HL5.out.le.trans hle7,HFR7.out,⟨lv7,vs7,hr8,fun g hg => hsub7.off (HOR.out g hg)⟩,HROW7.out,d2,by have:=HL5.out.cnt; omega,hw⟩
       have KPP:=Lib.hid (eput2_any w0.heap.size w.heap.size w.heap.size lv7 vs7 st2 v7 l2 x.t.bl W7 hr8 hv7 hw (by have:=hL7.cnt; have:=hL7.xm.st; omega))
       have HPP:=Lib.hid (fun (W8 : World) (hp : PutPost w0.heap.size w.heap.size w.heap.size (Ep.put l2 x.t.bl st2) vs7 v7 W7 (.returned (.tuple #[])) W8) => hL7.putted (fun g hg => hsub7.off (HOR.out g hg)) hp (fun g hg e => by have h1:=hvb g e; have h2:=(HL5.out.row.lt hg).2; omega) (by omega) (by have:=HL5.out.cnt; omega))
       obtain ⟨b0,b1,b2,b3,b4,b5,b6,b7, -⟩:=box8_cells HB7.out.blk
       obtain ⟨ad7,cap7,rfl, -, -⟩:=hv7.form
       clear hv7 hvb hx7 hle7 hr8 hsub7 d1 d2 hL7
       go_wp2_with fail
       refine KPP.out.mono ?_
       rintro e8 V hpp8
       obtain rfl:=hpp8.1
       have h8:=HPP.out V hpp8
       have HLV:=Lib.hid h8.1
       have HBV:=Lib.hid (h8.2 HB7.out)
       have HRV:=Lib.hid (And.intro HCO.out HJ.out)
       obtain ⟨r2,hr2e⟩ : ∃ r2,r2 = r':=⟨_,rfl⟩
       rw [← hr2e] at HRV
       clear hpp8 h8 b0 b1 b2 b3 b4 b5 b6 b7 hr2e
       obtain ⟨lvA,vsA,hrA,hoffA⟩:=id HLV.out.rs
       have hBoff:=hrA.ls.off (Nat.le_refl _)
       obtain ⟨hLB,hBge,hBsv⟩:=HLV.out.box (.cells #[.int .i64 x.t.kind, .string x.t.text, .int .i64 x.t.file, .int .i64 x.t.fr, .int .i64 x.t.en, .bool x.t.bl, .pointer p, .bool x.mark] 314)
       have hrB:=hrA.below ((Below.refl _ V).alloc (Nat.le_refl _) (.cells #[.int .i64 x.t.kind, .string x.t.text, .int .i64 x.t.file, .int .i64 x.t.fr, .int .i64 x.t.en, .bool x.t.bl, .pointer p, .bool x.mark] 314))
       have hblkB:=heap_alloc_new V (.cells #[.int .i64 x.t.kind, .string x.t.text, .int .i64 x.t.file, .int .i64 x.t.fr, .int .i64 x.t.en, .bool x.t.bl, .pointer p, .bool x.mark] 314)
       have KNA:=Lib.hid (enext_any w0.heap.size w.heap.size w.heap.size lvA vsA (Ep.put l2 x.t.bl st2).1 (Ep.put l2 x.t.bl st2).2 _ hrB hw hLB.lens (by have:=hLB.cnt; have:=hLB.xm.st; omega))
       obtain ⟨b0,b1,b2,b3,b4,b5,b6,b7, -⟩:=box8_cells HBV.out.blk
       have HLB:=Lib.hid hLB
       have HRB:=Lib.hid (And.intro hrB hoffA)
       have HBB:=Lib.hid (And.intro hblkB (And.intro hBge (And.intro hBsv hBoff)))
       clear hrA hoffA hBoff hLB hBge hBsv hrB hblkB
       go_wp2_with fail
       refine KNA.out.mono ?_
       rintro e9 W9 ⟨y,q,rfl,hq9,hf9,hn9⟩
       have hblk9:=hf9.ht _ _ _ HBB.out.1
       obtain ⟨st9,bb9,hL9,hB9,h9⟩:=Lp.nexted HLB.out HRB.out.1 HRB.out.2 HBB.out.1 HBB.out.2.1 HBB.out.2.2.1 HBB.out.2.2.2 hf9 hn9 hq9 rfl
       have hadv:=Ep.advance HRV.out.1 h9
       have HL9:=Lib.hid hL9
       have HB9:=Lib.hid hB9
       have HADV9:=Lib.hid hadv
       obtain ⟨v0,v1,v2,v3,v4,v5,v6,v7,vf⟩:=box8_cells hblk9
       clear hq9 hf9 hn9 hblk9 hL9 hB9 h9 hadv b0 b1 b2 b3 b4 b5 b6 b7
       generalize (Ep.next (Ep.put l2 x.t.bl st2).1 (Ep.put l2 x.t.bl st2).2).isSome = okb at HADV9 ⊢
       obtain ⟨⟨kd9,tx9,fl9,fr9,en9,bl9⟩,hd9,mk9⟩:=y
       dsimp only [htAgg] at HL9 HB9 ⊢
       unfold set8 at HL9 HB9
       go_wp2_with fail
       go_roundg f
       case measure => omega
       case rel =>
        refine ⟨X2,st9,bb9,acc,_,_,q,r2,rfl,HL9.out,HB9.out,hacc,HRV.out.2,?_⟩
        rcases HADV9.out with h | ⟨f',h1,h2,h3,h4⟩
        ·exact .inl h
        ·exact .inr ⟨f',h1,h2,by omega,h3,h4⟩
     ·rw [hf1] at k1
      rw [hop] at KO
      go_wp2_with fail
      refine KO.out.mono ?_
      rintro e6 W6 ⟨rfl,hb6⟩
      have HL6:=Lib.hid (HL5.out.below hb6)
      have HB6:=Lib.hid (HB5.out.below hb6)
      clear hb6 k1
      obtain ⟨b0,b1,b2,b3,b4,b5,b6,b7, -⟩:=box8_cells HB6.out.blk
      obtain ⟨lvR,vsR,hrR,hoffR⟩:=HL6.out.rs
      have KRR:=Lib.hid (ereplace_any w0 w.heap.size w.heap.size xb mb kb ms _ (IH.out f (by omega)) X1 st lvR vsR x p j m W6 HL6.out.xm hrR HB6.out.hid hw hG hmok HJJ.out.1 HJJ.out.2 rr HRR.out)
      have HOR:=Lib.hid hoffR
      clear hrR hoffR
      go_wp2_with fail
      refine KRR.out.mono ?_
      rintro e7 W7 ⟨hf7,hr7⟩
      have hfr7:=HL6.out.fr.trans hf7
      have HB7:=Lib.hid (HB6.out.fr hf7)
      have HROW7:=Lib.hid (HL6.out.row.kept hf7.ht hf7.nm)
      have HFR7:=Lib.hid hfr7
      clear hf7 hfr7 b0 b1 b2 b3 b4 b5 b6 b7
      cases rr with
      | error ek =>
       obtain ⟨rfl,hk0⟩:=hr7
       have hfin : RunPost w0 w xb mb kb ms X r (.returned (.tuple #[.slice none 0 0, .int .i64 ek])) W7:=by
        have he:=HCO.out
        dsimp only at he
        rw [HJ.out,he]
        exact ⟨HFR7.out,rfl,hk0⟩
       have HF:=Lib.hid hfin
       have q0 : ¬ (ek = 0):=hk0
       clear hfin
       go_wp2_with fail
       go_ret2
       exact HF.out
      | ok z =>
       obtain ⟨X2,l2,st2⟩:=z
       obtain ⟨⟨v7,rfl,hv7,hvb⟩,hl2,hx7,hle7,hst7,lv7,vs7,hr8,hsub7⟩:=hr7
       obtain ⟨d1,d2⟩:=Ep.replace_len HRR.out 1000000 HL6.out.lens
       have hL7 : Lp w0 w W7 w.heap.size xb mb kb ms X X2 st2 false acc _:=⟨hx7,HL6.out.le.trans hle7,HFR7.out,⟨lv7,vs7,hr8,fun g hg => hsub7.off (HOR.out g hg)⟩,HROW7.out,d2,by have:=HL6.out.cnt; omega,hw⟩
       have KPP:=Lib.hid (eput2_any w0.heap.size w.heap.size w.heap.size lv7 vs7 st2 v7 l2 x.t.bl W7 hr8 hv7 hw (by have:=hL7.cnt; have:=hL7.xm.st; omega))
       have HPP:=Lib.hid (fun (W8 : World) (hp : PutPost w0.heap.size w.heap.size w.heap.size (Ep.put l2 x.t.bl st2) vs7 v7 W7 (.returned (.tuple #[])) W8) => hL7.putted (fun g hg => hsub7.off (HOR.out g hg)) hp (fun g hg e => by have h1:=hvb g e; have h2:=(HL6.out.row.lt hg).2; omega) (by omega) (by have:=HL6.out.cnt; omega))
       obtain ⟨b0,b1,b2,b3,b4,b5,b6,b7, -⟩:=box8_cells HB7.out.blk
       obtain ⟨ad7,cap7,rfl, -, -⟩:=hv7.form
       clear hv7 hvb hx7 hle7 hr8 hsub7 d1 d2 hL7
       go_wp2_with fail
       refine KPP.out.mono ?_
       rintro e8 V hpp8
       obtain rfl:=hpp8.1
       have h8:=HPP.out V hpp8
       have HLV:=Lib.hid h8.1
       have HBV:=Lib.hid (h8.2 HB7.out)
       have HRV:=Lib.hid (And.intro HCO.out HJ.out)
       obtain ⟨r2,hr2e⟩ : ∃ r2,r2 = r':=⟨_,rfl⟩
       rw [← hr2e] at HRV
       clear hpp8 h8 b0 b1 b2 b3 b4 b5 b6 b7 hr2e
       obtain ⟨lvA,vsA,hrA,hoffA⟩:=id HLV.out.rs
       have hBoff:=hrA.ls.off (Nat.le_refl _)
       obtain ⟨hLB,hBge,hBsv⟩:=HLV.out.box (.cells #[.int .i64 x.t.kind, .string x.t.text, .int .i64 x.t.file, .int .i64 x.t.fr, .int .i64 x.t.en, .bool x.t.bl, .pointer p, .bool x.mark] 314)
       have hrB:=hrA.below ((Below.refl _ V).alloc (Nat.le_refl _) (.cells #[.int .i64 x.t.kind, .string x.t.text, .int .i64 x.t.file, .int .i64 x.t.fr, .int .i64 x.t.en, .bool x.t.bl, .pointer p, .bool x.mark] 314))
       have hblkB:=heap_alloc_new V (.cells #[.int .i64 x.t.kind, .string x.t.text, .int .i64 x.t.file, .int .i64 x.t.fr, .int .i64 x.t.en, .bool x.t.bl, .pointer p, .bool x.mark] 314)
       have KNA:=Lib.hid (enext_any w0.heap.size w.heap.size w.heap.size lvA vsA (Ep.put l2 x.t.bl st2).1 (Ep.put l2 x.t.bl st2).2 _ hrB hw hLB.lens (by have:=hLB.cnt; have:=hLB.xm.st; omega))
       obtain ⟨b0,b1,b2,b3,b4,b5,b6,b7, -⟩:=box8_cells HBV.out.blk
       have HLB:=Lib.hid hLB
       have HRB:=Lib.hid (And.intro hrB hoffA)
       have HBB:=Lib.hid (And.intro hblkB (And.intro hBge (And.intro hBsv hBoff)))
       clear hrA hoffA hBoff hLB hBge hBsv hrB hblkB
       go_wp2_with fail
       refine KNA.out.mono ?_
       rintro e9 W9 ⟨y,q,rfl,hq9,hf9,hn9⟩
       have hblk9:=hf9.ht _ _ _ HBB.out.1
       obtain ⟨st9,bb9,hL9,hB9,h9⟩:=Lp.nexted HLB.out HRB.out.1 HRB.out.2 HBB.out.1 HBB.out.2.1 HBB.out.2.2.1 HBB.out.2.2.2 hf9 hn9 hq9 rfl
       have hadv:=Ep.advance HRV.out.1 h9
       have HL9:=Lib.hid hL9
       have HB9:=Lib.hid hB9
       have HADV9:=Lib.hid hadv
       obtain ⟨v0,v1,v2,v3,v4,v5,v6,v7,vf⟩:=box8_cells hblk9
       clear hq9 hf9 hn9 hblk9 hL9 hB9 h9 hadv b0 b1 b2 b3 b4 b5 b6 b7
       generalize (Ep.next (Ep.put l2 x.t.bl st2).1 (Ep.put l2 x.t.bl st2).2).isSome = okb at HADV9 ⊢
       obtain ⟨⟨kd9,tx9,fl9,fr9,en9,bl9⟩,hd9,mk9⟩:=y
       dsimp only [htAgg] at HL9 HB9 ⊢
       unfold set8 at HL9 HB9
       go_wp2_with fail
       go_roundg f
       case measure => omega
       case rel =>
        refine ⟨X2,st9,bb9,acc,_,_,q,r2,rfl,HL9.out,HB9.out,hacc,HRV.out.2,?_⟩
        rcases HADV9.out with h | ⟨f',h1,h2,h3,h4⟩
        ·exact .inl h
        ·exact .inr ⟨f',h1,h2,by omega,h3,h4⟩
theorem erun_any (w0 : World) (xb mb : Nat) (kb : Nat → Nat) (ms : List M) (hG : Glob w0) (hms : ∀ m ∈ ms,MOk m) (n : Nat) : RunAny w0 xb mb kb ms (fun X l => Ep.run ms n 0 X (Ep.put l false []).1 false):=by
 induction n using Nat.strongRecOn with
 | _ n ih => exact erun_step w0 xb mb kb ms hG hms n ih
end
section
open Go.RowKit Go.Shelf
open Ep (HT XS)
open Mx (M)
def ExpPost (w : World) (r : Except Int (XS × List HT)) (e : Ending) (w' : World) : Prop :=
 Below w.heap.size w w' ∧
 match r with
 | .ok (_,l) => ∃ u,e = .returned (.tuple #[u, .int .i64 0]) ∧ Ks w' u (Ep.bareH l)
 | .error k => k ≠ 0 ∧ ∃ u,e = .returned (.tuple #[u, .int .i64 k]) ∧ Ks w' u []
theorem expand_any (mv v : Value) (ms : List M) (l : List K) (w : World) (hM : MsV w mv ms) (hK : Ks w v l) (hG : Glob w) (hms : ∀ m ∈ ms,MOk m) (hml : ms.length ≤ 1000000) (hl : l.length ≤ 1000000) (n : Nat) (r : Except Int (XS × List HT)) (hr : Ep.expand ms n l = some r) :
  Calls Tryz.prog 116 #[mv,v] w (ExpPost w r):=by
 have KB:=Lib.hid (ebegun_any mv ms w hM hml)
 have HK:=Lib.hid hK
 have HG:=Lib.hid hG
 have HR:=Lib.hid hr
 have HMS:=Lib.hid hms
 clear hM hK hG hr hms
 go_enter Tryz.func116,Tryz.ntmps116
 go_wp2_with fail
 refine KB.out.mono ?_
 rintro e1 w1 ⟨xb,mb,kb,rfl,hx1⟩
 have KL:=Lib.hid (elined_any v l w1 (HK.out.below hx1.bl) hl)
 have HX1:=Lib.hid hx1
 clear hx1
 go_wp2_with fail
 refine KL.out.mono ?_
 rintro e2 w2 ⟨lv,rfl,hrow,hb2⟩
 have hx2:=HX1.out.below hb2
 have hll : (Ep.lined false l).length ≤ 1000000:=by
  have : ∀ (b : Bool) (l : List K),(Ep.lined b l).length ≤ l.length:=fun b l => by
   induction l generalizing b with
   | nil => exact Nat.le_refl _
   | cons t r ih =>
    rw [Ep.lined]
    split
    ·have:=ih true; simp only [List.length_cons]; omega
    ·have:=ih false; simp only [List.length_cons]; omega
  exact Nat.le_trans (this false l) hl
 have KR:=Lib.hid (erun_any w xb mb kb ms HG.out HMS.out n ⟨[],0⟩ (Ep.lined false l) lv w2 r hx2 hrow.hs hll HR.out)
 have HB2:=Lib.hid hx2.bl
 clear hrow hb2 hx2 hll
 go_wp2_with fail
 refine KR.out.mono ?_
 rintro e3 w3 ⟨hf3,hr3⟩
 have hb3 : Below w.heap.size w w3:=HB2.out.trans (hf3.below HB2.out.size)
 have HB3:=Lib.hid hb3
 clear hf3 hb3
 cases r with
 | error k =>
  obtain ⟨rfl,hk0⟩:=hr3
  have KA:=Lib.hid (ebare_any (.slice none 0 0) [] w3 (Hs.nil w3 none 0 (Nat.zero_le _)) (Nat.zero_le _))
  go_wp2_with fail
  refine KA.out.mono ?_
  rintro e4 w4 ⟨u,rfl,hrow,hb4⟩
  have hks : Ks w4 u []:=Ks.of_row hrow
  have hfin : ExpPost w (.error k) (.returned (.tuple #[u, .int .i64 k])) w4:=⟨HB3.out.trans (hb4.mono HB3.out.size),hk0,u,rfl,hks⟩
  have HF:=Lib.hid hfin
  clear hrow hb4 hks hfin
  go_wp2_with fail
  go_ret2
  exact HF.out
 | ok y =>
  obtain ⟨X2,l2⟩:=y
  obtain ⟨⟨v3,rfl,hv3⟩,hl2, -, -⟩:=hr3
  have KA:=Lib.hid (ebare_any v3 l2 w3 hv3 (by omega))
  clear hv3
  go_wp2_with fail
  refine KA.out.mono ?_
  rintro e4 w4 ⟨u,rfl,hrow,hb4⟩
  have hks : Ks w4 u (Ep.bareH l2):=Ks.of_row (by rw [show l2.length = (Ep.bareH l2).length by simp [Ep.bareH]] at hrow; exact hrow)
  have hfin : ExpPost w (.ok (X2,l2)) (.returned (.tuple #[u, .int .i64 0])) w4:=⟨HB3.out.trans (hb4.mono HB3.out.size),u,rfl,hks⟩
  have HF:=Lib.hid hfin
  clear hrow hb4 hks hfin
  go_wp2_with fail
  go_ret2
  exact HF.out
end
section
open Go.RowKit Go.Shelf
open Mx (M)
namespace Pm
open Ep (HT XS)
theorem pieces_mac (x : ByteArray) : Ep.pieces (mac x) = [⟨one false,0,0⟩]:=rfl
theorem filled_mac (x : ByteArray) : Ep.filled (Ep.pieces (mac x)) [] = some (.ok [HT.of (one false)]):=rfl
theorem ixOf_mac (ds : List ByteArray) (s : ByteArray) : ∀ i,(s ∈ ds → ∃ j,Ep.ixOf s (ds.map mac) i = some j ∧ i ≤ j ∧ j < i + ds.length) ∧ (s ∉ ds → Ep.ixOf s (ds.map mac) i = none):=by
 induction ds with
 | nil => intro i; exact ⟨fun h => by simp at h,fun _ => rfl⟩
 | cons d ds ih =>
  intro i
  rw [List.map_cons,Ep.ixOf]
  by_cases e : (mac d).name = s
  ·rw [if_pos e]
   refine ⟨fun _ => ⟨i,rfl,Nat.le_refl _,by simp⟩,fun h => absurd ?_ h⟩
   have e : d = s:=e
   simp [e]
  ·rw [if_neg e]
   have e : ¬ d = s:=e
   refine ⟨fun h => ?_,fun h => (ih (i + 1)).2 fun h' => h (List.mem_cons_of_mem _ h')⟩
   rcases List.mem_cons.1 h with h | h
   ·exact absurd h.symm e
   ·obtain ⟨j,h1,h2,h3⟩:=(ih (i + 1)).1 h
    exact ⟨j,h1,by omega,by simp; omega⟩
structure OkX (n : Nat) (X : XS) : Prop where
 nd : X.pl.Nodup
 lt : ∀ j ∈ X.pl,j < n
theorem nodup_len : ∀ (n : Nat) (l : List Nat),l.Nodup → (∀ j ∈ l,j < n) → l.length ≤ n
 | 0,[],_,_ => Nat.le_refl _
 | 0,a :: l,_,h => by have:=h a List.mem_cons_self; omega
 | n + 1,l,hn,h => by
  have h1:=nodup_len n (l.erase n) (hn.erase n) fun j hj => by
   have h2:=(hn.mem_erase_iff).1 hj
   have:=h j h2.2
   have h3:=h2.1
   omega
  by_cases hm : n ∈ l
  ·rw [List.length_erase_of_mem hm] at h1; omega
  ·rw [List.erase_of_not_mem hm] at h1; omega
theorem OkX.len {n : Nat} {X : XS} (h : OkX n X) : X.pl.length ≤ n:=nodup_len n X.pl h.nd h.lt
theorem planIx_none {j : Nat} : ∀ {l : List Nat} {i : Nat},Ep.planIx j l i = none → j ∉ l
 | [],_,_ => by simp
 | a :: r,i,h => by
  rw [Ep.planIx] at h
  split at h
  ·cases h
  ·rename_i hne
   have:=planIx_none h
   simp only [List.mem_cons,not_or]
   exact ⟨fun e => hne e.symm,this⟩
theorem stepOf_ok {n j : Nat} {X : XS} (h : OkX n X) (hn : n < 60) (hj : j < n) (hs : X.steps < 1000) : ∃ X1 q,Ep.stepOf X j = some (X1,q) ∧ OkX n X1 ∧ X1.steps = X.steps + 1:=by
 unfold Ep.stepOf
 rw [if_pos hs]
 cases hp : Ep.planIx j X.pl 0 with
 | some q => exact ⟨_,q,rfl,⟨h.nd,h.lt⟩,rfl⟩
 | none =>
  have hlen:=h.len
  dsimp only
  rw [if_pos (by omega)]
  refine ⟨_,_,rfl,⟨?_,?_⟩,rfl⟩
  ·rw [List.nodup_append]
   refine ⟨h.nd,by simp,fun a ha b hb e => ?_⟩
   obtain rfl:=List.mem_singleton.1 hb
   subst e
   exact planIx_none hp ha
  ·intro a ha
   rcases List.mem_append.1 ha with ha | ha
   ·exact h.lt a ha
   ·obtain rfl:=List.mem_singleton.1 ha
    exact hj
theorem run_num (ms : List M) (n k : Nat) (X : XS) (y : HT) (l : List HT) (b : Bool) (hk : y.t.kind ≠ 1) (hs : y.t.text.size ≤ 1000000) (hlt : k < 4000) :
  Ep.run ms (n + 1) k X ([y] :: (Ep.put l false []).1) b = Ep.stays ⟨Ep.blK y.t (y.t.bl || b),y.hd,y.mark⟩ (Ep.run ms n (k + 1) X (Ep.put l false []).1 false):=by
 have hn : Ep.next ([y] :: (Ep.put l false []).1) b = some (⟨Ep.blK y.t (y.t.bl || b),y.hd,y.mark⟩,(Ep.put l false []).1):=rfl
 rw [Ep.run,hn]
 dsimp only
 have hm : Ep.macroOf ms X ⟨Ep.blK y.t (y.t.bl || b),y.hd,y.mark⟩ = none:=by
  unfold Ep.macroOf
  exact if_neg hk
 rw [if_neg (by show ¬ 1000000 < y.t.text.size; omega),hm]
 dsimp only
 rw [if_pos hlt]
theorem run_sub (ds : List ByteArray) (hd : ds.length < 60) : ∀ (l : List HT) (n k : Nat) (X : XS),(∀ y ∈ l,y.hd = 0 ∧ y.t.text.size ≤ 1000000) → 2 * l.length + 1 ≤ n → k + l.length ≤ 4000 → X.steps + l.length ≤ 1000 → OkX ds.length X →
  ∃ X' out,Ep.run (ds.map mac) n k X (Ep.put l false []).1 false = some (.ok (X',out)) ∧ Ep.bareH out = (Ep.bareH l).map (sub1 ds):=by
 intro l
 induction l with
 | nil =>
  intro n k X _ hn _ _ _
  obtain ⟨m,rfl⟩ : ∃ m,n = m + 1:=⟨n - 1,by omega⟩
  exact ⟨X,[],rfl,rfl⟩
 | cons y r ih =>
  intro n k X hl hn hk hst hX
  obtain ⟨m,rfl⟩ : ∃ m,n = m + 1:=⟨n - 1,by simp at hn; omega⟩
  obtain ⟨hy0,hys⟩:=hl y List.mem_cons_self
  have hr : ∀ z ∈ r,z.hd = 0 ∧ z.t.text.size ≤ 1000000:=fun z hz => hl z (List.mem_cons_of_mem _ hz)
  simp only [List.length_cons] at hn hk hst
  have hput : (Ep.put (y :: r) false []).1 = [y :: r]:=rfl
  have hnext : Ep.next [y :: r] false = some (⟨Ep.blK y.t (y.t.bl || false),y.hd,y.mark⟩,(Ep.put r false []).1):=by
   show some (_,Ep.drop1 1 [y :: r]) = _
   cases r <;> rfl
  have hbl : Ep.blK y.t (y.t.bl || false) = y.t:=by rw [Bool.or_false]; rfl
  rw [hput,Ep.run,hnext,hbl]
  dsimp only
  rw [if_neg (by show ¬ 1000000 < y.t.text.size; omega)]
  by_cases hc : y.t.kind = 1 ∧ y.t.text ∈ ds
  ·obtain ⟨j,hj1, -,hj2⟩:=(ixOf_mac ds y.t.text 0).1 hc.2
   rw [Nat.zero_add] at hj2
   have hm : Ep.macroOf (ds.map mac) X ⟨y.t,y.hd,y.mark⟩ = some j:=by
    unfold Ep.macroOf
    rw [if_pos hc.1,hj1]
    dsimp only
    cases Ep.planIx j X.pl 0 with
    | none => rfl
    | some q => dsimp only; rw [hy0,Nat.zero_testBit,if_neg (by decide)]
   obtain ⟨x,hx⟩ : ∃ x,ds[j]? = some x:=⟨_,List.getElem?_eq_getElem hj2⟩
   have hjm : (ds.map mac)[j]? = some (mac x):=by rw [List.getElem?_map,hx]; rfl
   obtain ⟨X1,q,hs1,hX1,hs2⟩:=stepOf_ok hX hd hj2 (by omega)
   have hrep : ∀ run,Ep.replace run (ds.map mac) X j (mac x) ⟨y.t,y.hd,y.mark⟩ (Ep.put r false []).1 = some (.ok (X1,Ep.fit ⟨y.t,y.hd,y.mark⟩ [HT.of (one false)] y.hd q,(Ep.put r false []).1)):=fun run => by
    unfold Ep.replace
    rw [show Ep.takeInv (mac x) ⟨y.t,y.hd,y.mark⟩ (Ep.put r false []).1 = some (.ok ([],[],y.hd,(Ep.put r false []).1)) from rfl]
    dsimp only
    rw [hs1]
    dsimp only
    rw [show Ep.shared (mac x) [] [] = .ok [] from rfl]
    dsimp only
    rw [Ep.argsOf]
    dsimp only
    rw [filled_mac]
   rw [hm]
   dsimp only
   rw [hjm]
   dsimp only
   rw [show ((mac x).fn && !Ep.opens (Ep.put r false []).1) = false from rfl,if_neg (by decide),hrep]
   dsimp only
   obtain ⟨h,hh⟩ : ∃ h,Ep.fit ⟨y.t,y.hd,y.mark⟩ [HT.of (one false)] y.hd q = [⟨one y.t.bl,h,false⟩]:=⟨_,rfl⟩
   rw [hh]
   rw [show Ep.put [(⟨one y.t.bl,h,false⟩ : HT)] y.t.bl (Ep.put r false []).1 = ([⟨one y.t.bl,h,false⟩] :: (Ep.put r false []).1,false) from rfl]
   dsimp only
   obtain ⟨m',rfl⟩ : ∃ m',m = m' + 1:=⟨m - 1,by omega⟩
   rw [run_num _ _ _ _ ⟨one y.t.bl,h,false⟩ _ _ (show (2 : Int) ≠ 1 by decide) (show (⟨#[49]⟩ : ByteArray).size ≤ 1000000 by decide) (by omega)]
   obtain ⟨X',out,h1,h2⟩:=ih m' (k + 1) X1 hr (by omega) (by omega) (by omega) hX1
   rw [h1]
   refine ⟨X',_,rfl,?_⟩
   show _ :: Ep.bareH out = sub1 ds y.t :: _
   rw [h2]
   congr 1
   unfold sub1
   rw [if_pos ⟨hc.1,(Wo.has_iff _ _).2 hc.2⟩]
   show Ep.blK (one y.t.bl) (y.t.bl || false) = _
   rw [Bool.or_false]
   rfl
  ·have hm : Ep.macroOf (ds.map mac) X ⟨y.t,y.hd,y.mark⟩ = none:=by
    unfold Ep.macroOf
    by_cases h1 : y.t.kind = 1
    ·rw [if_pos h1,(ixOf_mac ds y.t.text 0).2 fun h => hc ⟨h1,h⟩]
    ·exact if_neg h1
   rw [hm]
   dsimp only
   rw [if_pos (by omega)]
   obtain ⟨X',out,h1,h2⟩:=ih m (k + 1) X hr (by omega) (by omega) (by omega) hX
   rw [h1]
   refine ⟨X',_,rfl,?_⟩
   show _ :: Ep.bareH out = sub1 ds y.t :: _
   rw [h2]
   congr 1
   unfold sub1
   rw [if_neg fun h => hc ⟨h.1,(Wo.has_iff _ _).1 h.2⟩]
theorem lined_facts : ∀ (b : Bool) (l : List K),(Ep.lined b l).length ≤ l.length ∧ ∀ y ∈ Ep.lined b l,y.hd = 0 ∧ ∃ u ∈ l,y.t.text = u.text
 | _,[] => ⟨Nat.le_refl _,fun y h => by cases h⟩
 | b,t :: r => by
  rw [Ep.lined]
  split
  ·obtain ⟨h1,h2⟩:=lined_facts true r
   exact ⟨by simp only [List.length_cons]; omega,fun y hy => ⟨(h2 y hy).1,let ⟨u,hu,e⟩:=(h2 y hy).2; ⟨u,List.mem_cons_of_mem _ hu,e⟩⟩⟩
  ·obtain ⟨h1,h2⟩:=lined_facts false r
   refine ⟨by simp only [List.length_cons]; omega,fun y hy => ?_⟩
   rcases List.mem_cons.1 hy with rfl | hy
   ·exact ⟨rfl,t,List.mem_cons_self,rfl⟩
   ·exact ⟨(h2 y hy).1,let ⟨u,hu,e⟩:=(h2 y hy).2; ⟨u,List.mem_cons_of_mem _ hu,e⟩⟩
theorem expand_sub (ds : List ByteArray) (hd : ds.length < 60) (l : List K) (hl : l.length ≤ 1000) (hs : ∀ t ∈ l,t.text.size ≤ 1000000) :
  ∃ X out,Ep.expand (ds.map mac) (2 * l.length + 1) l = some (.ok (X,out)) ∧ Ep.bareH out = subL ds l:=by
 obtain ⟨h1,h2⟩:=lined_facts false l
 unfold Ep.expand
 have:=run_sub ds hd (Ep.lined false l) (2 * l.length + 1) 0 ⟨[],0⟩ (fun y hy => ⟨(h2 y hy).1,by obtain ⟨u,hu,e⟩:=(h2 y hy).2; rw [e]; exact hs u hu⟩) (by omega) (by omega) (by show 0 + _ ≤ 1000; omega) ⟨by simp,by simp⟩
 exact this
theorem mac_ok (x : ByteArray) : MOk (mac x) where
 ps:=Nat.zero_le _
 psz:=fun p hp => by cases hp
 bl:=show 1 ≤ 1000000 by omega
 bsz:=fun u hu => by
  have hu : u ∈ [one false]:=hu
  obtain rfl:=List.mem_singleton.1 hu
  decide
 nf:=rfl
 wy:=fun p hp => by
  rw [pieces_mac] at hp
  obtain rfl:=List.mem_singleton.1 hp
  rfl
end Pm
theorem esub_any (mv v : Value) (ds : List ByteArray) (l : List K) (w : World) (hM : MsV w mv (ds.map mac)) (hK : Ks w v l) (hG : Glob w) (hd : ds.length ≤ 8) (hl : l.length ≤ 1000) (hs : ∀ t ∈ l,t.text.size ≤ 1000000) :
  Calls Tryz.prog 116 #[mv,v] w fun e w' => ∃ u,e = .returned (.tuple #[u, .int .i64 0]) ∧ Ks w' u (Pm.subL ds l) ∧ Below w.heap.size w w':=by
 obtain ⟨X,out,h1,h2⟩:=Pm.expand_sub ds (by omega) l hl hs
 refine (expand_any mv v (ds.map mac) l w hM hK hG (fun m hm => ?_) (by simp; omega) (by omega) _ _ h1).mono ?_
 ·obtain ⟨x,_,rfl⟩:=List.mem_map.1 hm
  exact Pm.mac_ok x
 ·rintro e w' ⟨hB,u,rfl,hu⟩
  rw [h2] at hu
  exact ⟨u,rfl,hu,hB⟩
end
end Go.Proofs.YthekfpgegiffoaaGreatDoor
