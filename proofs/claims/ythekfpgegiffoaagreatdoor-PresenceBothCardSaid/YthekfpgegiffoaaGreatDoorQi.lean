/- What is proved: hide sets: both; signs. (and what stands with it) -/
import Derived.Test.YthekfpgegiffoaaGreatDoorQh
import Derived.Test.YthekfpgegiffoaaGreatDoorQb
import Derived.IntWalk
import Derived.Test.YthekfpgegiffoaaGreatDoorQf
import Derived.Deep.AppendLies
set_option linter.unusedSimpArgs false
set_option linter.unusedVariables false
set_option maxHeartbeats 16000000
set_option maxRecDepth 100000
namespace Go.Proofs.YthekfpgegiffoaaGreatDoor
section
open Go.RowKit Go.Shelf
theorem esign_any (t : K) (s : ByteArray) (w : World) : Calls Tryz.prog 213 #[kAgg t, .string s] w fun e w' => e = .returned (.bool (Mx.isP t s)) ∧ Below w.heap.size w w':=by
 obtain ⟨k,tx,f,a,b,bl⟩:=t
 dsimp only [kAgg]
 by_cases h1 : k = 5
 ·subst h1
  by_cases h2 : tx = s
  ·have t2 : (tx.toList == s.toList) = true:=by rw [ba_beq]; simpa using h2
   have e : Mx.isP ⟨5,tx,f,a,b,bl⟩ s = true:=by simp [Mx.isP,h2]
   rw [e]
   clear h2 e
   go_enter Tryz.func213,Tryz.ntmps213
   go_wp2_with fail
   go_ret
   exact ⟨rfl,(Below.refl _ _).alloc (Nat.le_refl _) _⟩
  ·have t2 : (tx.toList == s.toList) = false:=by rw [ba_beq]; simpa using h2
   have e : Mx.isP ⟨5,tx,f,a,b,bl⟩ s = false:=by simp [Mx.isP,h2]
   rw [e]
   clear h2 e
   go_enter Tryz.func213,Tryz.ntmps213
   go_wp2_with fail
   go_ret
   exact ⟨rfl,(Below.refl _ _).alloc (Nat.le_refl _) _⟩
 ·have t1 : (k == 5) = false:=by simpa using h1
  have e : Mx.isP ⟨k,tx,f,a,b,bl⟩ s = false:=by simp [Mx.isP,t1]
  rw [e]
  clear h1 e
  go_enter Tryz.func213,Tryz.ntmps213
  go_wp2_with fail
  go_ret
  exact ⟨rfl,(Below.refl _ _).alloc (Nat.le_refl _) _⟩
theorem etooMany_no (fb : Nat) (ad : Option Addr) (n cap : Nat) (w : World) (c0 : w.cell? ⟨fb,0,none⟩ = some (.slice ad n cap)) (hn : n ≤ 4001) :
  Calls Tryz.prog 297 #[.pointer (some ⟨fb,0,none⟩)] w fun e w' => e = .returned (.bool false) ∧ w' = w:=by
 have q : ¬ (4001 : Int) < n:=by omega
 have q2 : ¬ 4001 < n:=by omega
 go_enter Tryz.func297,Tryz.ntmps297
 go_wp2_with fail
 go_ret
 simp
end
section
open Go.RowKit Go.Shelf Go.WideMaps
open Mx (M VA)
def MacV (W : World) (v : Value) (m : M) : Prop:=∃ pv bv,v = .agg #[.string m.name, .bool m.fn,pv, .bool m.va,bv] ∧ Sts W pv m.ps ∧ Ks W bv m.body
theorem MacV.below {W W' : World} {v : Value} {m : M} (h : MacV W v m) (hb : Below W.heap.size W W') : MacV W' v m:=by
 obtain ⟨pv,bv,rfl,h1,h2⟩:=h
 exact ⟨pv,bv,rfl,h1.below hb,h2.below hb⟩
theorem zero3 (w : World) : (zeroValue 3).run Tryz.prog w = .ok (.int .i64 0) w:=by kernel_rfl
theorem wf3 (n : Nat) (h : n < 9223372036854775808) : (Lit.int .i64 (n : Int)).wf = true:=by
 show (decide ((-9223372036854775808 : Int) ≤ n) && decide ((n : Int) ≤ 9223372036854775807)) = true
 rw [decide_eq_true (by omega),decide_eq_true (by omega)]
 rfl
def PMap (W : World) (mb N : Nat) (f : ByteArray → Option Nat) : Prop :=
 ∃ D,W.ownsMap (H:=Unit) Tryz.prog 9 (plainElem Tryz.prog 3) mb N D ∧ ∀ x : ByteArray,x.size ≤ maxLen → Go.Maps.has D (.string x.data.toList) = (f x).isSome ∧ D.atKey (.string x.data.toList) (.lit (.int .i64 0)) = .lit (.int .i64 (((f x).getD 0 : Nat) : Int))
theorem PMap.keep {W W' : World} {mb N : Nat} {f : ByteArray → Option Nat} (h : PMap W mb N f) (hg : W.grownBy W' none) : PMap W' mb N f:=by
 obtain ⟨D,h1,h2⟩:=h
 exact ⟨D,h1.kept hg (by simp),h2⟩
theorem PMap.below {W W' : World} {mb N : Nat} {f : ByteArray → Option Nat} (h : PMap W mb N f) (hb : Below W.heap.size W W') : PMap W' mb N f:=h.keep (grownN hb none)
theorem PMap.look {W : World} {mb N : Nat} {f : ByteArray → Option Nat} (h : PMap W mb N f) (x : ByteArray) (hx : x.size ≤ maxLen) :
  (Instr.lookup 413 (.map (some mb)) (.string x) true).run Tryz.prog W = .ok (.tuple #[.int .i64 (((f x).getD 0 : Nat) : Int), .bool (f x).isSome]) W:=by
 obtain ⟨D,h1,h3⟩:=h
 obtain ⟨v,q,hr,hv⟩:=h1.look_ok keyStr Tryz.underlying413 (zero3 W) (plainElem_int (H:=Unit) (q:=.i64) Tryz.underlying3 (a:=0) (by decide)) (keyOf_string_mk Tryz.underlying9 hx)
 obtain ⟨a,rfl,e,_⟩:=plainElem_int_inv Tryz.underlying3 hv
 obtain ⟨g1,g2⟩:=h3 x hx
 rw [g2] at e
 simp only [Prod.mk.injEq,DataW.lit.injEq,Lit.int.injEq,true_and] at e
 obtain ⟨e,_⟩:=e
 rw [hr,g1,← e]
theorem PMap.put {W : World} {mb N : Nat} {f : ByteArray → Option Nat} (h : PMap W mb N f) (x : ByteArray) (i : Nat) (hx : x.size ≤ maxLen) (hN : N < maxLen) (hi : i < 9223372036854775808) :
  ∃ W',(Instr.mapUpdate 413 (.map (some mb)) (.string x) (.int .i64 i)).run Tryz.prog W = .ok () W' ∧ PMap W' mb (N + 1) (fun y => if y = x then some i else f y) ∧ W.grownBy W' (some mb):=by
 obtain ⟨D,h1,h3⟩:=h
 obtain ⟨W',r1,r2,r3⟩:=h1.update keyStr Tryz.underlying413 hN (keyOf_string_mk Tryz.underlying9 hx) (plainElem_int (H:=Unit) Tryz.underlying3 (wf3 i hi))
 refine ⟨W',r1,⟨_,r2,fun y hy => ?_⟩,r3⟩
 by_cases e : y = x
 ·subst e
  rw [Go.Maps.has_put_same h1.isMap (keyLit y hx),Go.Maps.atKey_put_same h1.isMap (keyLit y hx)]
  simp
 ·rw [Go.Maps.has_put_other (fun e' => e (str_inj e')),Go.Maps.atKey_put_other (fun e' => e (str_inj e')),(h3 y hy).1,(h3 y hy).2]
  simp [e]
theorem PMap.congr {W : World} {mb N : Nat} {f g : ByteArray → Option Nat} (h : PMap W mb N f) (e : ∀ x,f x = g x) : PMap W mb N g:=by
 rw [show g = f from (funext e).symm]; exact h
theorem lastIx_snoc (s p : ByteArray) : ∀ (l : List ByteArray) (i : Nat),Ep.lastIx s (l ++ [p]) i = if p = s then some (i + l.length) else Ep.lastIx s l i
 | [],i => by simp [Ep.lastIx]
 | a :: r,i => by
  rw [List.cons_append,Ep.lastIx,Ep.lastIx,lastIx_snoc s p r (i + 1)]
  by_cases e : p = s
  ·rw [if_pos e,if_pos e,List.length_cons]
   simp; omega
  ·rw [if_neg e,if_neg e]
def ParamsPost (w : World) (m : M) (e : Ending) (w' : World) : Prop:=∃ mb N,e = .returned (.map (some mb)) ∧ PMap w' mb N (Ep.parIx m) ∧ w.heap.size ≤ mb ∧ Below w.heap.size w w'
theorem eparams_any (v : Value) (m : M) (w : World) (hv : MacV w v m) (hps : m.ps.length ≤ 1000000) (hsz : ∀ p ∈ m.ps,p.size ≤ 1000000000) :
  Calls Tryz.prog 269 #[v] w (ParamsPost w m):=by
 obtain ⟨pv,bv,rfl,hp, -⟩:=hv
 obtain ⟨nm,fn,ps,va,body⟩:=m
 dsimp only at hp hps hsz ⊢
 obtain ⟨ad,cap,rfl,hc1,hc2, -⟩:=id hp
 obtain ⟨n,hn⟩ : ∃ n,n = ps.length:=⟨_,rfl⟩
 rw [← hn] at hc1 hps hp ⊢
 have hA : Below w.heap.size w (w.alloc (.cells #[.string nm, .bool fn, .slice ad n cap, .bool va,bv] 168)):=(Below.refl _ w).alloc (Nat.le_refl _) _
 have HP:=Lib.hid hp
 have HN:=Lib.hid hn
 have HS:=Lib.hid hsz
 have hbk:=heap_alloc_new w (.cells #[.string nm, .bool fn, .slice ad n cap, .bool va,bv] 168)
 clear hp hn hsz hc1 hc2
 have hA2 : Below w.heap.size w ((w.alloc (.cells #[.string nm, .bool fn, .slice ad n cap, .bool va,bv] 168)).alloc (.map #[] 0)):=hA.alloc (by simp) _
 have hbk2:=(Below.heap_alloc _ (.map #[] 0) _ (lt_of_heap hbk)).trans hbk
 have hP0 : PMap ((w.alloc (.cells #[.string nm, .bool fn, .slice ad n cap, .bool va,bv] 168)).alloc (.map #[] 0)) (w.heap.size + 1) 0 (fun _ => none):=by
  refine ⟨.map [],?_,fun x _ => ⟨rfl,rfl⟩⟩
  have:=World.ownsMap_made (H:=Unit) (w.alloc (.cells #[.string nm, .bool fn, .slice ad n cap, .bool va,bv] 168)) Tryz.prog 9 (plainElem Tryz.prog 3)
  rwa [World.size_alloc] at this
 have hmm:=@run_makeMap Tryz.prog
 generalize hW1 : ((w.alloc (.cells #[.string nm, .bool fn, .slice ad n cap, .bool va,bv] 168)).alloc (.map #[] 0)) = W1 at hA2 hbk2 hP0
 have HA2:=Lib.hid hA2
 have HP0:=Lib.hid hP0
 have HBK2:=Lib.hid hbk2
 have HW1:=Lib.hid hW1
 clear hA2 hP0 hbk2 hW1 hA
 go_enter Tryz.func269,Tryz.ntmps269
 cases fn with
 | false =>
  go_wp2_with fail
  rw [HW1.out]
  go_ret
  exact ⟨_,_,rfl,HP0.out.congr (fun x => rfl),by omega,HA2.out⟩
 | true =>
  go_wp2_with fail
  rw [HW1.out]
  clear hbk
  go_loopw [14] (fun a wr => ∃ k : Nat,a = .int .i64 k ∧ k ≤ n ∧ PMap wr (w.heap.size + 1) k (fun x => Ep.lastIx x (ps.take k) 0) ∧ wr.heap[w.heap.size]? = some (.cells #[.string nm, .bool true, .slice ad n cap, .bool va,bv] 168 (0,0)) ∧ Below w.heap.size w wr) (fun a _ => n - (intOf a).toNat)
  case atStart => exact ⟨0,rfl,Nat.zero_le _,HP0.out,HBK2.out,HA2.out⟩
  case round =>
   obtain ⟨k,rfl,hk,hpm,hbx,hB⟩:=hrel
   by_cases hlt : k < n
   ·have hk' : k < ps.length:=by rw [← HN.out]; exact hlt
    obtain ⟨s,hs⟩ : ∃ s,ps[k]? = some s:=⟨_,List.getElem?_eq_getElem hk'⟩
    have hsz:=HS.out s (List.mem_of_getElem? hs)
    obtain ⟨ad',cap',e, -, -,h3⟩:=HP.out
    injection e with e1 e2 e3
    obtain ⟨g,o,e4,hc⟩:=h3 k s hs
    rw [← e1] at e4
    subst e4
    have hc1 : wr.cell? ⟨g,o + k,none⟩ = some (.string s):=(hB.cell (p:=⟨g,o + k,none⟩) (lt_of_cell hc)).trans hc
    obtain ⟨W2,r1,r2,r3⟩:=hpm.put s k (by unfold maxLen; omega) (by unfold maxLen; omega) (by omega)
    have hbx2:=(r3.block _ (lt_of_heap hbx) (by simp)).trans hbx
    have hB2:=hB.grown r3 hB.size (fun j e => by cases e; omega)
    have hT : ps.take (k + 1) = ps.take k ++ [s]:=by rw [List.take_succ_eq_append_getElem hk',(List.getElem?_eq_some_iff.1 hs).2]
    have r2' : PMap W2 (w.heap.size + 1) (k + 1) (fun x => Ep.lastIx x (ps.take (k + 1)) 0):=r2.congr (fun x => by
     rw [hT,lastIx_snoc,List.length_take,Nat.min_eq_left (Nat.le_of_lt hk'),Nat.zero_add]
     by_cases e : x = s
     ·rw [if_pos e,if_pos e.symm]
     ·rw [if_neg e,if_neg (fun e' => e e'.symm)])
    obtain ⟨c0,c1,c2,c3,c4⟩ : wr.cell? ⟨w.heap.size,0,none⟩ = some (.string nm) ∧ wr.cell? ⟨w.heap.size,1,none⟩ = some (.bool true) ∧ wr.cell? ⟨w.heap.size,2,none⟩ = some (.slice (some ⟨g,o,none⟩) n cap) ∧ wr.cell? ⟨w.heap.size,3,none⟩ = some (.bool va) ∧ wr.cell? ⟨w.heap.size,4,none⟩ = some bv :=
     ⟨(Lib.cell_of_heap hbx 0).trans rfl,(Lib.cell_of_heap hbx 1).trans rfl,(Lib.cell_of_heap hbx 2).trans rfl,(Lib.cell_of_heap hbx 3).trans rfl,(Lib.cell_of_heap hbx 4).trans rfl⟩
    have x1 : (0 : Int) ≤ k:=by omega
    have x2 : (k : Int) < n:=by omega
    have H1:=Lib.hid r2'
    have H2:=Lib.hid hbx2
    have H3:=Lib.hid hB2
    clear hpm hbx hB r2 r2' hbx2 hB2 hT r3 hs hc h3 e1 e2 e3
    go_wp2_with fail
    go_roundw
    case rel => exact ⟨k + 1,by go_num,by omega,H1.out,H2.out,H3.out⟩
    case measure => simp [intOf]; omega
   ·obtain rfl : k = n:=by omega
    have hT : ps.take k = ps:=List.take_of_length_le (by rw [← HN.out]; exact Nat.le_refl _)
    rw [hT] at hpm
    obtain ⟨c0,c1,c2,c3,c4⟩ : wr.cell? ⟨w.heap.size,0,none⟩ = some (.string nm) ∧ wr.cell? ⟨w.heap.size,1,none⟩ = some (.bool true) ∧ wr.cell? ⟨w.heap.size,2,none⟩ = some (.slice ad k cap) ∧ wr.cell? ⟨w.heap.size,3,none⟩ = some (.bool va) ∧ wr.cell? ⟨w.heap.size,4,none⟩ = some bv :=
     ⟨(Lib.cell_of_heap hbx 0).trans rfl,(Lib.cell_of_heap hbx 1).trans rfl,(Lib.cell_of_heap hbx 2).trans rfl,(Lib.cell_of_heap hbx 3).trans rfl,(Lib.cell_of_heap hbx 4).trans rfl⟩
    cases va with
    | false =>
     have H1:=Lib.hid hpm
     have H3:=Lib.hid hB
     clear hpm hbx hB hT
     go_wp2_with fail
     go_ret
     exact ⟨_,_,rfl,H1.out.congr (fun x => rfl),by omega,H3.out⟩
    | true =>
     obtain ⟨W2,r1,r2,r3⟩:=hpm.put VA k (by decide) (by unfold maxLen; omega) (by omega)
     have hB2:=hB.grown r3 hB.size (fun j e => by cases e; omega)
     have r2' : PMap W2 (w.heap.size + 1) (k + 1) (Ep.parIx ⟨nm,true,ps,true,body⟩):=r2.congr (fun x => by
      unfold Ep.parIx
      dsimp only
      rw [if_pos rfl,Bool.true_and,← HN.out]
      by_cases e : x = VA
      ·rw [if_pos e,if_pos (by simpa using e)]
      ·rw [if_neg e,if_neg (by simpa using e)])
     have H1:=Lib.hid r2'
     have H3:=Lib.hid hB2
     dsimp only [VA] at r1
     clear hpm hbx hB hT r2 r2' r3 hB2
     go_wp2_with fail
     go_ret
     exact ⟨_,_,rfl,H1.out,by omega,H3.out⟩
end
section
open Go.RowKit Go.Shelf
open Ep (HT)
theorem ks_some {W : World} {ad : Option Addr} {n cap : Nat} {ts : List K} (h : Ks W (.slice ad n cap) ts) {i : Nat} {t : K} (ht : ts[i]? = some t) : ∃ g o,ad = some ⟨g,o,none⟩ ∧ KAt W g (o + i * 6) t:=by
 obtain ⟨ad',cap',e, -, -,h3⟩:=h
 injection e with e1 e2 e3
 obtain ⟨g,o,e',c⟩:=h3 i t ht
 exact ⟨g,o,e1.trans e',c⟩
theorem hs_some {W : World} {ad : Option Addr} {n cap : Nat} {l : List HT} (h : Hs W (.slice ad n cap) l) {i : Nat} {x : HT} (hx : l[i]? = some x) : ∃ g o,ad = some ⟨g,o,none⟩ ∧ HAt W g (o + i * 8) x:=by
 obtain ⟨ad',cap',e, -, -,h3⟩:=h
 injection e with e1 e2 e3
 obtain ⟨g,o,e',c⟩:=h3 i x hx
 exact ⟨g,o,e1.trans e',c⟩
theorem Kept.trans {t : TypeId} {w w1 w' : World} (h : Kept t w w1) (k : Kept t w1 w') : Kept t w w':=fun b cs fz hb => k b cs fz (h b cs fz hb)
theorem Kept.alloc (t : TypeId) (w : World) (o : Obj) : Kept t w (w.alloc o):=Kept.of_below ((Below.refl _ w).alloc (Nat.le_refl _) o) t
theorem Kept.alloc2 (t : TypeId) (w : World) (o p : Obj) : Kept t w ((w.alloc o).alloc p):=(Kept.alloc t w o).trans (Kept.alloc t _ p)
theorem row_kept {t e : TypeId} {w w' : World} {B sz n : Nat} {v : Value} {xs : List Value} (h : w.ownsRow B e sz v n xs) (hg : w.grownBy w' v.ownBlock) (ht : t ≠ e) : Kept t w w':=fun b cs fz hb => by
 refine (hg.block b (Array.getElem?_eq_some_iff.1 hb).1 fun e' => ?_).trans hb
 rcases h.2 with ⟨h',_⟩ | ⟨g',cap',cur,h',_,h2',_⟩
 ·rw [h'] at e'; cases e'
 ·rw [h'] at e'
  simp only [Value.ownBlock,Option.some.injEq] at e'
  rw [← e',hb] at h2'
  injection h2' with h2'
  injection h2' with _ h3 _
  exact ht h3
def LinedPost (w : World) (l : List HT) (e : Ending) (w' : World) : Prop:=∃ u,e = .returned u ∧ HRow w' w.heap.size u l ∧ Below w.heap.size w w'
theorem elined_any (v : Value) (l : List K) (w : World) (hv : Ks w v l) (hl : l.length ≤ 1000000) :
  Calls Tryz.prog 151 #[v] w (LinedPost w (Ep.lined false l)):=by
 obtain ⟨i0,hi,hz0,hz1,hz2⟩:=info_parts infoHt
 obtain ⟨ad,cap,rfl,h1,h2, -⟩:=id hv
 obtain ⟨n,hn⟩ : ∃ n,n = l.length:=⟨_,rfl⟩
 rw [← hn] at hv h1 hl ⊢
 have HV:=Lib.hid hv
 have Hn:=Lib.hid hn
 clear hv hn h1 h2
 go_enter Tryz.func151,Tryz.ntmps151
 go_wp2_with (at_make; refine wpList_make_own _ rfl _ _ 267 rfl w.heap.size 314 i0 _ 8 Tryz.underlying267 hi hz0 hz1 .i64 .i64 _ n rfl rfl rfl (by rw [hz2]; omega) (by unfold maxLen; omega) (Nat.le_refl _) ?_; intro w1 hrow1 hg1)
 have hB1 : Below w.heap.size w w1:=(Below.refl _ w).grown hg1 (Nat.le_refl _) (fun _ e => by cases e)
 have HR1:=Lib.hid hrow1
 have HB1:=Lib.hid hB1
 clear hrow1 hg1 hB1
 go_loopw [3,4,12] (fun o p a wr => ∃ (k : Nat) (b : Bool) (acc : List HT),a = .int .i64 k ∧ k ≤ n ∧ p = .bool b ∧ HRow wr w.heap.size o acc ∧ acc.length ≤ k ∧ Ep.lined false l = acc ++ Ep.lined b (l.drop k) ∧ Below w.heap.size w wr) (fun _ _ a _ => n - (intOf a).toNat)
 case atStart => exact ⟨0,false,[],rfl,Nat.zero_le _,rfl,⟨[],HR1.out,rfl⟩,Nat.le_refl _,rfl,HB1.out⟩
 case round =>
  obtain ⟨k,b,acc,rfl,hk,rfl,hrow,hacc,hlin,hB⟩:=hrel
  by_cases hlt : k < n
  ·obtain ⟨t,ht⟩ : ∃ t,l[k]? = some t:=⟨_,List.getElem?_eq_getElem (by rw [← Hn.out]; exact hlt)⟩
   have hd : l.drop k = t :: l.drop (k + 1):=by
    rw [List.drop_eq_getElem_cons (by rw [← Hn.out]; exact hlt)]
    rw [List.getElem?_eq_getElem (by rw [← Hn.out]; exact hlt)] at ht
    injection ht with ht
    rw [ht]
   rw [hd,Ep.lined] at hlin
   obtain ⟨g,o,rfl,d0,d1,d2,d3,d4,d5⟩:=ks_some (HV.out.below hB) ht
   have HROW:=Lib.hid hrow
   obtain ⟨cs,hrow,hcs⟩:=hrow
   have HCS:=Lib.hid hcs
   have HLIN:=Lib.hid hlin
   have HB:=Lib.hid hB
   have hbs:=hB.size
   obtain ⟨kd,tx,f,fr,en,bl⟩:=t
   dsimp only at d0 d1 d2 d3 d4 d5 HLIN
   clear ht hd hcs hlin hB
   have z1 : (0 : Int) ≤ k:=by omega
   have z2 : (k : Int) < n:=by omega
   have hgl:=lt_of_cell d0
   by_cases h7 : kd = 7
   ·subst h7
    go_wp2_with fail
    go_roundw
    case rel =>
     refine ⟨k + 1,true,acc,by go_num,by omega,rfl,HROW.out.below ((Below.refl _ _).alloc (Nat.le_refl _) _),by omega,?_,HB.out.alloc hbs _⟩
     have:=HLIN.out
     rw [if_pos rfl] at this
     exact this
    case measure => simp [intOf]; omega
   ·have q7 : (kd == 7) = false:=by simpa using h7
    cases bl
    ·skip
     go_wp2_with (at_builtin; refine wpList_append_lies _ rfl _ _ 267 rfl w.heap.size 314 i0 _ 8 72 Tryz.underlying267 hi hz0 hz1 hz2 rfl (by decide) _ acc.length cs rfl ((hrow.alloc _).alloc _) ⟨wr.heap.size + 1,0,none⟩ 1 1 (htCells (HT.of ⟨kd,tx,f,fr,en,b⟩) none) rfl rfl (World.news_of_block (cs:=#[.int .i64 kd, .string tx, .int .i64 f, .int .i64 fr, .int .i64 en, .bool b, .pointer none, .bool false]) (t:=314) (fr:=(0,0)) (heap_alloc2_new wr _ _)) (by simp [Value.oneCell',htCells,kCells]) (by decide) (by unfold maxLen; omega) (by omega) (by simp; omega) _ rfl ?_; intro gg cap' w2 hown hgrow hat hlt2)
     go_roundw
     case rel =>
      refine ⟨k + 1,false,acc ++ [HT.of ⟨kd,tx,f,fr,en,b⟩],by go_num,by omega,rfl,⟨cs ++ htCells (HT.of ⟨kd,tx,f,fr,en,b⟩) none,by rw [List.length_append]; exact hown,?_⟩,by simp; omega,?_,?_⟩
      ·exact (HCS.out.keep ((Kept.alloc2 _ _ _ _).trans (row_kept ((hrow.alloc _).alloc _) hgrow (by decide)))).snoc (HidP.zero _)
      ·have:=HLIN.out
       rw [if_neg h7] at this
       rw [this,List.append_assoc]
       simp [Ep.blK]
      ·exact ((HB.out.alloc hbs _).alloc (by simp; omega) _).grown hgrow (by simp; omega) (fun i e => (hrow.lt i e).1)
     case measure => simp [intOf]; omega
    ·skip
     go_wp2_with (at_builtin; refine wpList_append_lies _ rfl _ _ 267 rfl w.heap.size 314 i0 _ 8 72 Tryz.underlying267 hi hz0 hz1 hz2 rfl (by decide) _ acc.length cs rfl ((hrow.alloc _).alloc _) ⟨wr.heap.size + 1,0,none⟩ 1 1 (htCells (HT.of ⟨kd,tx,f,fr,en,true⟩) none) rfl rfl (World.news_of_block (cs:=#[.int .i64 kd, .string tx, .int .i64 f, .int .i64 fr, .int .i64 en, .bool true, .pointer none, .bool false]) (t:=314) (fr:=(0,0)) (heap_alloc2_new wr _ _)) (by simp [Value.oneCell',htCells,kCells]) (by decide) (by unfold maxLen; omega) (by omega) (by simp; omega) _ rfl ?_; intro gg cap' w2 hown hgrow hat hlt2)
     go_roundw
     case rel =>
      refine ⟨k + 1,false,acc ++ [HT.of ⟨kd,tx,f,fr,en,true⟩],by go_num,by omega,rfl,⟨cs ++ htCells (HT.of ⟨kd,tx,f,fr,en,true⟩) none,by rw [List.length_append]; exact hown,?_⟩,by simp; omega,?_,?_⟩
      ·exact (HCS.out.keep ((Kept.alloc2 _ _ _ _).trans (row_kept ((hrow.alloc _).alloc _) hgrow (by decide)))).snoc (HidP.zero _)
      ·have:=HLIN.out
       rw [if_neg h7] at this
       rw [this,List.append_assoc]
       simp [Ep.blK]
      ·exact ((HB.out.alloc hbs _).alloc (by simp; omega) _).grown hgrow (by simp; omega) (fun i e => (hrow.lt i e).1)
     case measure => simp [intOf]; omega
  ·obtain rfl : k = n:=by omega
   have he : l.drop k = []:=List.drop_eq_nil_of_le (by rw [← Hn.out]; exact Nat.le_refl _)
   rw [he] at hlin
   have HLIN:=Lib.hid hlin
   have HROW:=Lib.hid hrow
   have HB:=Lib.hid hB
   clear hlin hrow hB he
   go_wp2_with fail
   go_ret
   refine ⟨_,rfl,?_,HB.out⟩
   have:=HLIN.out
   rw [show Ep.lined b [] = [] from rfl,List.append_nil] at this
   rw [this]
   exact HROW.out
end
section
open Go.RowKit Go.Shelf
open Ep (HT)
def BareHPost (w : World) (l : List HT) (e : Ending) (w' : World) : Prop:=∃ u,e = .returned u ∧ w'.ownsRow w.heap.size 63 6 u l.length (ksCells (Ep.bareH l)) ∧ Below w.heap.size w w'
theorem bareH_take (l : List HT) (k : Nat) (x : HT) (hx : l[k]? = some x) : ksCells (Ep.bareH (l.take (k + 1))) = ksCells (Ep.bareH (l.take k)) ++ kCells x.t:=by
 have hk:=(List.getElem?_eq_some_iff.1 hx).1
 have h2:=(List.getElem?_eq_some_iff.1 hx).2
 unfold Ep.bareH
 rw [List.take_succ_eq_append_getElem hk,List.map_append,ksCells_append,h2]
 simp [ksCells]
theorem ebare_any (v : Value) (l : List HT) (w : World) (hv : Hs w v l) (hl : l.length ≤ 1000000) :
  Calls Tryz.prog 152 #[v] w (BareHPost w l):=by
 obtain ⟨i0,hi,hz0,hz1,hz2⟩:=info_parts infoTok
 obtain ⟨ad,cap,rfl,h1,h2, -⟩:=id hv
 obtain ⟨n,hn⟩ : ∃ n,n = l.length:=⟨_,rfl⟩
 rw [← hn] at hv h1 hl
 have HV:=Lib.hid hv
 have Hn:=Lib.hid hn
 rw [← hn]
 clear hv hn h1 h2
 go_enter Tryz.func152,Tryz.ntmps152
 go_wp2_with (at_make; refine wpList_make_own _ rfl _ _ 44 rfl w.heap.size 63 i0 _ 6 Tryz.underlying44 hi hz0 hz1 .i64 .i64 _ n rfl rfl rfl (by rw [hz2]; omega) (by unfold maxLen; omega) (Nat.le_refl _) ?_; intro w1 hrow1 hg1)
 have hB1 : Below w.heap.size w w1:=(Below.refl _ w).grown hg1 (Nat.le_refl _) (fun _ e => by cases e)
 have HR1:=Lib.hid hrow1
 have HB1:=Lib.hid hB1
 clear hrow1 hg1 hB1
 go_loopw [3,10] (fun o a wr => ∃ (k : Nat),a = .int .i64 k ∧ k ≤ n ∧ wr.ownsRow w.heap.size 63 6 o k (ksCells (Ep.bareH (l.take k))) ∧ Below w.heap.size w wr) (fun _ a _ => n - (intOf a).toNat)
 case atStart => exact ⟨0,rfl,Nat.zero_le _,HR1.out,HB1.out⟩
 case round =>
  obtain ⟨k,rfl,hk,hrow,hB⟩:=hrel
  by_cases hlt : k < n
  ·obtain ⟨x,hx⟩ : ∃ x,l[k]? = some x:=⟨_,List.getElem?_eq_getElem (by rw [← Hn.out]; exact hlt)⟩
   obtain ⟨g,o,rfl, -,⟨d0,d1,d2,d3,d4,d5⟩, -⟩:=hs_some (HV.out.below hB) hx
   have HT:=Lib.hid (bareH_take l k x hx)
   have HB:=Lib.hid hB
   have hbs:=hB.size
   obtain ⟨⟨kd,tx,f,fr,en,bl⟩,hd,mk⟩:=x
   dsimp only at d0 d1 d2 d3 d4 d5
   obtain ⟨cs,hcs⟩ : ∃ cs,cs = ksCells (Ep.bareH (l.take k)):=⟨_,rfl⟩
   rw [← hcs] at hrow HT
   clear hx hB hcs
   have z1 : (0 : Int) ≤ k:=by omega
   have z2 : (k : Int) < n:=by omega
   have hgl:=lt_of_cell d0
   go_wp2_with (at_builtin; refine wpList_append_lies _ rfl _ _ 44 rfl w.heap.size 63 i0 _ 6 56 Tryz.underlying44 hi hz0 hz1 hz2 rfl (by decide) _ k cs rfl (hrow.alloc _) ⟨wr.heap.size,0,none⟩ 1 1 (kCells ⟨kd,tx,f,fr,en,bl⟩) rfl rfl (World.news_of_block (cs:=#[.int .i64 kd, .string tx, .int .i64 f, .int .i64 fr, .int .i64 en, .bool bl]) (t:=63) (fr:=(0,0)) (heap_alloc_new wr _)) (by simp [Value.oneCell',kCells]) (by decide) (by unfold maxLen; omega) (by omega) (by simp; omega) _ rfl ?_; intro gg cap' w2 hown hgrow hat hlt2)
   go_roundw
   case rel =>
    refine ⟨k + 1,by go_num,by omega,?_,?_⟩
    ·rw [HT.out]; exact hown
    ·exact (HB.out.alloc hbs _).grown hgrow (by simp; omega) (fun i e => (hrow.lt i e).1)
   case measure => simp [intOf]; omega
  ·obtain rfl : k = n:=by omega
   rw [List.take_of_length_le (by rw [← Hn.out]; exact Nat.le_refl _)] at hrow
   have HROW:=Lib.hid hrow
   have HB:=Lib.hid hB
   clear hrow hB
   go_wp2_with fail
   go_ret
   refine ⟨_,rfl,?_,HB.out⟩
   rw [← Hn.out]
   exact HROW.out
end
section
open Go.RowKit Go.Shelf
open Ep (HT)
def Ls (W : World) : List (List HT) → List Value → Prop
 | [],vs => vs = []
 | l :: r,vs => ∃ us v,vs = us ++ [v] ∧ Hs W v l ∧ l ≠ [] ∧ Ls W r us
theorem Ls.keep {W W' : World} (h1 : Kept 314 W W') (h2 : Kept 379 W W') : ∀ {st : List (List HT)} {vs : List Value},Ls W st vs → Ls W' st vs
 | [],_,h => h
 | _ :: _,_,⟨us,v,e,hv,hn,h⟩ => ⟨us,v,e,hv.keep h1 h2,hn,Ls.keep h1 h2 h⟩
theorem Ls.length {W : World} : ∀ {st : List (List HT)} {vs : List Value},Ls W st vs → vs.length = st.length
 | [],_,h => by rw [show _ = [] from h]; rfl
 | _ :: _,_,⟨us,v,e,_,_,h⟩ => by rw [e,List.length_append,Ls.length h]; rfl
structure Rs (W : World) (n lb : Nat) (lv : Value) (vs : List Value) (st : List (List HT)) (b : Bool) : Prop where
 blk : W.heap[lb]? = some (.cells #[lv, .bool b] 310 (0,0))
 hn : n ≤ lb
 row : W.ownsRow n 267 1 lv vs.length vs
 ls : Ls W st vs
section
variable {W W' : World} {n lb : Nat} {lv : Value} {vs : List Value} {st : List (List HT)} {b : Bool}
theorem Rs.lt (h : Rs W n lb lv vs st b) : lb < W.heap.size:=lt_of_heap h.blk
theorem Rs.c0 (h : Rs W n lb lv vs st b) : W.cell? ⟨lb,0,none⟩ = some lv:=(Lib.cell_of_heap h.blk 0).trans rfl
theorem Rs.c1 (h : Rs W n lb lv vs st b) : W.cell? ⟨lb,1,none⟩ = some (.bool b):=(Lib.cell_of_heap h.blk 1).trans rfl
theorem Rs.froz (h : Rs W n lb lv vs st b) (i : Nat) : W.frozen? ⟨lb,i,none⟩ = false:=by simp [World.frozen?,h.blk]
theorem Rs.off (h : Rs W n lb lv vs st b) : lv.ownBlock ≠ some lb:=fun hk => by
 rcases h.row.2 with ⟨h',_⟩ | ⟨g',cap',cur,h',_,h2',_⟩
 ·rw [h'] at hk; cases hk
 ·rw [h'] at hk
  simp only [Value.ownBlock,Option.some.injEq] at hk
  rw [hk,h.blk] at h2'
  injection h2' with h2'
  injection h2' with _ h3 _
  exact absurd h3 (by decide)
theorem Rs.keep (h : Rs W n lb lv vs st b) (hk : ∀ k,(k = lb ∨ lv.ownBlock = some k) → W'.heap[k]? = W.heap[k]?) (h1 : Kept 314 W W') (h2 : Kept 379 W W') : Rs W' n lb lv vs st b:=by
 refine ⟨(hk lb (.inl rfl)).trans h.blk,h.hn,⟨h.row.1,?_⟩,h.ls.keep h1 h2⟩
 rcases h.row.2 with h' | ⟨g,cap,cur,h',a1,a2,a3⟩
 ·exact .inl h'
 ·exact .inr ⟨g,cap,cur,h',a1,(hk g (.inr (by rw [h']; rfl))).trans a2,a3⟩
theorem Rs.below (h : Rs W n lb lv vs st b) (hb : Below W.heap.size W W') : Rs W' n lb lv vs st b :=
 h.keep (fun k hk => hb.block k (by rcases hk with rfl | hk; exact h.lt; exact (h.row.lt k hk).2)) (Kept.of_below hb _) (Kept.of_below hb _)
theorem Rs.top {l : List HT} (h : Rs W n lb lv vs (l :: st) b) : ∃ us gv ov cv g cap,vs = us ++ [.slice (some ⟨gv,ov,none⟩) l.length cv] ∧ lv = .slice (some ⟨g,0,none⟩) (us.length + 1) cap ∧ us.length = st.length ∧
  Hs W (.slice (some ⟨gv,ov,none⟩) l.length cv) l ∧ l.length ≤ cv ∧ cv ≤ maxLen ∧ 0 < l.length ∧ gv < W.heap.size ∧ Ls W st us ∧ n ≤ g ∧ g < W.heap.size ∧ us.length < cap ∧ cap ≤ maxLen ∧ g ≠ lb ∧ g ≠ gv ∧ lb ≠ gv ∧
  W.cell? ⟨g,us.length,none⟩ = some (.slice (some ⟨gv,ov,none⟩) l.length cv) ∧ W.frozen? ⟨g,us.length,none⟩ = false:=by
 obtain ⟨us,v,e,hv,hne,hls⟩:=h.ls
 have hl : 0 < l.length:=List.length_pos_iff.2 hne
 obtain ⟨ad,cv,rfl,b1,b2,b3⟩:=id hv
 obtain ⟨gv,ov,rfl,hat⟩:=b3 0 _ (List.getElem?_eq_getElem hl)
 have hgv:=lt_of_cell hat.2.1.1
 obtain ⟨⟨cs,fz,hty⟩, -⟩:=hat
 have hrow:=h.row
 rw [e] at hrow
 have hoff:=h.off
 rcases hrow.2 with ⟨h',h0⟩ | ⟨g,cap,cur,h',a1,a2,a3,a4,a5,a6⟩
 ·simp at h0
 ·simp only [List.length_append,List.length_singleton] at h' a3 a6
  subst h'
  have hgl:=lt_of_heap a2
  refine ⟨us,gv,ov,cv,g,cap,e,rfl,hls.length,hv,b1,b2,hl,hgv,hls,a1,hgl,by omega,a4,fun e => hoff (by rw [← e]; rfl),fun e => ?_,fun e => ?_,?_,by simp [World.frozen?,a2]⟩
  ·rw [← e,a2] at hty; injection hty with hty; injection hty with _ h3 _; exact absurd h3 (by decide)
  ·rw [← e,h.blk] at hty; injection hty with hty; injection hty with _ h3 _; exact absurd h3 (by decide)
  ·have:=hrow.cells (g:=g) rfl us.length (.slice (some ⟨gv,ov,none⟩) l.length cv) (by rw [List.getElem?_append_right (Nat.le_refl _),Nat.sub_self]; rfl)
   rwa [add_none,Nat.zero_add] at this
end
theorem Rs.drew {W : World} {n lb : Nat} {lv : Value} {vs : List Value} {st : List (List HT)} {b : Bool} (h : Rs W n lb lv vs st b) : Rs W.drew n lb lv vs st b :=
 h.keep (fun _ _ => rfl) (fun _ _ _ hb => hb) (fun _ _ _ hb => hb)
theorem Kept.set {t t' : TypeId} {W : World} {k i : Nat} {u : Value} {cs : Array Value} {fz : Nat × Nat} (hk : W.heap[k]? = some (.cells cs t' fz)) (ht : t ≠ t') : Kept t W (W.setCell ⟨k,i,none⟩ u):=fun b ds fy hb => by
 refine (heap_setCell_other W ⟨k,i,none⟩ b u fun e => ?_).trans hb
 have e : b = k:=e
 subst e
 rw [hk] at hb
 injection hb with hb
 injection hb with _ h3 _
 exact ht h3.symm
theorem Rs.setTop {W : World} {n lb g cap : Nat} {us : List Value} {v v' : Value} {l l' : List HT} {st : List (List HT)} {b : Bool} (h : Rs W n lb (.slice (some ⟨g,0,none⟩) (us.length + 1) cap) (us ++ [v]) (l :: st) b)
  (hv : Hs W v' l') (hne : l' ≠ []) : Rs (W.setCell ⟨g,us.length,none⟩ v') n lb (.slice (some ⟨g,0,none⟩) (us.length + 1) cap) (us ++ [v']) (l' :: st) b:=by
 have hrow:=h.row
 rw [show (us ++ [v]).length = us.length + 1 by simp] at hrow
 have hst:=hrow.stored us.length v'
 obtain ⟨cs,hg⟩ : ∃ cs,W.heap[g]? = some (.cells cs 267 (0,0)):=by
  rcases hrow.2 with ⟨h',_⟩ | ⟨g',cap',cur,h',_,h2,_⟩
  ·cases h'
  ·cases h'; exact ⟨_,h2⟩
 have hoff : lb ≠ g:=fun e => h.off (by rw [e]; rfl)
 obtain ⟨us',v0,e, -, -,hls⟩:=h.ls
 obtain ⟨e1,e2⟩:=List.append_inj' e rfl
 subst e1
 have k1:=Kept.set (i:=us.length) (u:=v') hg (show 314 ≠ 267 by decide)
 have k2:=Kept.set (i:=us.length) (u:=v') hg (show 379 ≠ 267 by decide)
 refine ⟨(heap_setCell_other W ⟨g,us.length,none⟩ lb v' hoff).trans h.blk,h.hn,?_,us,v',rfl,hv.keep k1 k2,hne,hls.keep k1 k2⟩
 rw [show (us ++ [v']).length = us.length + 1 by simp]
 have:=hst.1
 rwa [List.set_append_right _ _ (Nat.le_refl _),Nat.sub_self,List.set_cons_zero] at this
theorem row_shrink {w : World} {B e sz g cap n m : Nat} {xs : List Value} (h : w.ownsRow B e sz (.slice (some ⟨g,0,none⟩) n cap) n xs) (hm : m ≤ n) : w.ownsRow B e sz (.slice (some ⟨g,0,none⟩) m cap) m (xs.take (m * sz)):=by
 have hms : m * sz ≤ n * sz:=Nat.mul_le_mul_right _ hm
 refine ⟨by rw [List.length_take,h.1]; omega,?_⟩
 rcases h.2 with ⟨h',_⟩ | ⟨g',cap',cur,h',a1,a2,a3,a4,a5,a6⟩
 ·cases h'
 ·cases h'
  refine .inr ⟨g,cap,cur,rfl,a1,a2,by omega,a4,a5,?_⟩
  rw [← a6,List.take_take,Nat.min_eq_left hms]
theorem Rs.pop {W : World} {n lb g cap : Nat} {us : List Value} {v : Value} {l : List HT} {st : List (List HT)} {b : Bool} (h : Rs W n lb (.slice (some ⟨g,0,none⟩) (us.length + 1) cap) (us ++ [v]) (l :: st) b) (v' : Value) :
  Rs ((W.setCell ⟨g,us.length,none⟩ v').setCell ⟨lb,0,none⟩ (.slice (some ⟨g,0,none⟩) us.length cap)) n lb (.slice (some ⟨g,0,none⟩) us.length cap) us st b:=by
 have hoff : lb ≠ g:=fun e => h.off (by rw [e]; rfl)
 obtain ⟨us',v0,e, -, -,hls⟩:=h.ls
 obtain ⟨e1,e2⟩:=List.append_inj' e rfl
 subst e1
 have hrow:=h.row
 rw [show (us ++ [v]).length = us.length + 1 by simp] at hrow
 obtain ⟨cs,hg⟩ : ∃ cs,W.heap[g]? = some (.cells cs 267 (0,0)):=by
  rcases hrow.2 with ⟨h',_⟩ | ⟨g',cap',cur,h',_,h2,_⟩
  ·cases h'
  ·cases h'; exact ⟨_,h2⟩
 have hst:=row_shrink (hrow.stored us.length v').1 (Nat.le_succ us.length)
 rw [Nat.mul_one,List.set_append_right _ _ (Nat.le_refl _),List.take_append_of_le_length (Nat.le_refl _),List.take_length] at hst
 have hblk:=(heap_setCell_other W ⟨g,us.length,none⟩ lb v' hoff).trans h.blk
 refine ⟨by simp [World.setCell,Array.getElem?_modify,h.blk,hoff.symm],h.hn,?_,(hls.keep (Kept.set hg (by decide)) (Kept.set hg (by decide))).keep (Kept.set hblk (by decide)) (Kept.set hblk (by decide))⟩
 exact ownsRow_setCell_other hst (fun e => hoff (by simpa [Value.ownBlock] using e.symm)) _
theorem Fr.set_rest {W : World} {N n : Nat} {k i : Nat} {u : Value} {cs : Array Value} {t : TypeId} {fz : Nat × Nat} (hk : W.heap[k]? = some (.cells cs t fz)) (ht : t = 310 ∨ t = 267) (hn : n ≤ k) (hN : N ≤ n) : Fr false N n W (W.setCell ⟨k,i,none⟩ u) :=
 ⟨rfl,rfl,rfl,by simp,fun b o hb ho => by
  refine (heap_setCell_other W ⟨k,i,none⟩ b u fun e => ?_).trans hb
  have e : b = k:=e
  subst e
  rw [hk] at hb
  cases hb
  rcases ho with ho | ⟨_,ho | ho⟩
  ·omega
  ·rcases ht with rfl | rfl
   ·exact ho.1 rfl
   ·exact ho.2 rfl
  ·omega⟩
def Sub (vs us : List Value) : Prop:=∀ v ∈ vs,∃ u ∈ us,v.ownBlock = u.ownBlock
def Off (B : Nat) (vs : List Value) : Prop:=∀ v ∈ vs,v.ownBlock ≠ some B
theorem Sub.off {vs us : List Value} {B : Nat} (h : Sub vs us) (k : Off B us) : Off B vs:=fun v hv => by
 obtain ⟨u,hu,e⟩:=h v hv
 rw [e]
 exact k u hu
theorem Sub.refl (vs : List Value) : Sub vs vs:=fun v hv => ⟨v,hv,rfl⟩
theorem Sub.init (us : List Value) (v : Value) : Sub us (us ++ [v]):=fun x hx => ⟨x,List.mem_append_left _ hx,rfl⟩
theorem Sub.last {us : List Value} {v v' : Value} (h : v'.ownBlock = v.ownBlock) : Sub (us ++ [v']) (us ++ [v]):=fun x hx => by
 rcases List.mem_append.1 hx with h' | h'
 ·exact ⟨x,List.mem_append_left _ h',rfl⟩
 ·rw [List.mem_singleton.1 h']; exact ⟨v,List.mem_append_right _ List.mem_cons_self,h⟩
def Only1 (B : Nat) (W W' : World) : Prop:=∀ k,k ≠ B → W'.heap[k]? = W.heap[k]?
theorem Only1.kept {t t' : TypeId} {B : Nat} {W W' : World} {cs : Array Value} {fz : Nat × Nat} (h : Only1 B W W') (hB : W.heap[B]? = some (.cells cs t' fz)) (ht : t ≠ t') : Kept t W W':=fun b ds fy hb => by
 refine (h b fun e => ?_).trans hb
 subst e
 rw [hB] at hb
 cases hb
 exact ht rfl
theorem Hs.only {W W' : World} {B : Nat} {v : Value} {l : List HT} {cs : Array Value} {fz : Nat × Nat} (h : Hs W v l) (k : Only1 B W W') (hB : W.heap[B]? = some (.cells cs 314 fz)) (ho : v.ownBlock ≠ some B) : Hs W' v l:=by
 obtain ⟨ad,cap,rfl,a1,a2,a3⟩:=h
 refine ⟨ad,cap,rfl,a1,a2,fun i x hx => ?_⟩
 obtain ⟨g,o,rfl,⟨ds,fy,hg⟩,hk,p,c6,c7,hp⟩:=a3 i x hx
 have hb:=k g (fun e => ho (by rw [← e]; rfl))
 exact ⟨g,o,rfl,⟨ds,fy,hb.trans hg⟩,hk.kept hb,p,(World.cell?_of_block (a:=⟨g,o + i * 8 + 6,none⟩) hb).trans c6,(World.cell?_of_block (a:=⟨g,o + i * 8 + 7,none⟩) hb).trans c7,hp.keep (k.kept hB (by decide))⟩
theorem Ls.only {W W' : World} {B : Nat} {cs : Array Value} {fz : Nat × Nat} (k : Only1 B W W') (hB : W.heap[B]? = some (.cells cs 314 fz)) : ∀ {st : List (List HT)} {vs : List Value},Ls W st vs → Off B vs → Ls W' st vs
 | [],_,h,_ => h
 | _ :: _,_,⟨us,v,e,hv,hn,h⟩,ho => ⟨us,v,e,hv.only k hB (ho v (by rw [e]; simp)),hn,Ls.only k hB h (fun x hx => ho x (by rw [e]; simp [hx]))⟩
theorem Rs.only {W W' : World} {n lb : Nat} {lv : Value} {vs : List Value} {st : List (List HT)} {b : Bool} {B : Nat} {cs : Array Value} {fz : Nat × Nat} (h : Rs W n lb lv vs st b) (k : Only1 B W W') (hB : W.heap[B]? = some (.cells cs 314 fz)) (ho : Off B vs) : Rs W' n lb lv vs st b:=by
 have hx : ∀ (j : Nat) (ds : Array Value) (t : TypeId) (fy : Nat × Nat),W.heap[j]? = some (.cells ds t fy) → t ≠ 314 → W'.heap[j]? = W.heap[j]?:=fun j ds t fy hj ht => k j fun e => by
  subst e
  rw [hB] at hj
  cases hj
  exact ht rfl
 refine ⟨(hx lb _ _ _ h.blk (by decide)).trans h.blk,h.hn,⟨h.row.1,?_⟩,h.ls.only k hB ho⟩
 rcases h.row.2 with h' | ⟨g,cap,cur,h',a1,a2,a3⟩
 ·exact .inl h'
 ·exact .inr ⟨g,cap,cur,h',a1,(hx g _ _ _ a2 (by decide)).trans a2,a3⟩
theorem Ls.off {W : World} {B : Nat} (hB : W.heap.size ≤ B) : ∀ {st : List (List HT)} {vs : List Value},Ls W st vs → Off B vs
 | [],_,h => by rw [show _ = [] from h]; intro v hv; cases hv
 | l :: _,_,⟨us,v,e,⟨ad,cap,hv,_,_,h3⟩,hn,h⟩ => fun x hx => by
  rw [e] at hx
  rcases List.mem_append.1 hx with h' | h'
  ·exact Ls.off hB h x h'
  ·rw [List.mem_singleton.1 h',hv]
   obtain ⟨g,o,rfl, -,hk, -⟩:=h3 0 _ (List.getElem?_eq_getElem (List.length_pos_iff.2 hn))
   have:=lt_of_cell hk.1
   intro e'
   simp only [Value.ownBlock,Option.some.injEq] at e'
   dsimp only at this
   omega
def DropPost (N n lb : Nat) (vs0 : List Value) (st : List (List HT)) (b : Bool) (w : World) (e : Ending) (w' : World) : Prop:=e = .returned (.tuple #[]) ∧ (∃ lv vs,Rs w' n lb lv vs st b ∧ Sub vs vs0) ∧ Fr false N n w w'
theorem edrop_any (N n lb : Nat) (lv : Value) (vs : List Value) (l : List HT) (st : List (List HT)) (b : Bool) (m : Nat) (w : World) (h : Rs w n lb lv vs (l :: st) b) (hm : m ≤ l.length) (hN : N ≤ n) (hl : l.length ≤ 1000000) (hst : st.length ≤ 1000000) :
  Calls Tryz.prog 211 #[.pointer (some ⟨lb,0,none⟩), .int .i64 m] w (DropPost N n lb vs (Ep.drop1 m (l :: st)) b w):=by
 obtain ⟨us,gv,ov,cv,g,cap,rfl,rfl,hus,hv,b1,b2,hl0,hgv,hls,hng,hgl,hc1,hc2,n1,n2,n3,cg,fg⟩:=h.top
 have c0:=h.c0
 have f0:=h.froz 0
 have hlt:=h.lt
 have hnl:=h.hn
 unfold maxLen at b2 hc2
 obtain ⟨L,hL⟩ : ∃ L,L = l.length:=⟨_,rfl⟩
 rw [← hL] at hm hl b1 hl0 cg
 have HH:=Lib.hid h
 have Hv:=Lib.hid hv
 have HL:=Lib.hid hL
 have Hls:=Lib.hid hls
 have Hus:=Lib.hid hus
 have n1' : ¬ lb = g:=fun e => n1 e.symm
 obtain ⟨U,hU⟩ : ∃ U,U = us.length:=⟨_,rfl⟩
 have HU:=Lib.hid hU
 have hU1 : U ≤ 1000000:=by omega
 rw [← hU] at c0 cg fg hc1
 clear h hv hL hls hU hus hst
 have z1 : (0 : Int) ≤ U:=by omega
 have z2 : (U : Int) < U + 1:=by omega
 have z3 : (0 : Int) ≤ m:=by omega
 have z4 : (m : Int) ≤ L:=by omega
 have z5 : ((U : Int) + 1 - 1) = U:=by omega
 have z6 : IntKind.i64.wrap ((U : Int) + 1 - 1) = U:=by rw [z5]; exact IntWalk.i64_in _ (by omega)
 have hgb:=Lib.hid (show ∃ cs,w.heap[g]? = some (.cells cs 267 (0,0)) by
  have hrow:=HH.out.row
  rw [show (us ++ [Value.slice (some ⟨gv,ov,none⟩) l.length cv]).length = us.length + 1 by simp] at hrow
  rcases hrow.2 with ⟨h',_⟩ | ⟨g',cap',cur,h',_,h2,_⟩
  ·cases h'
  ·cases h'; exact ⟨_,h2⟩)
 have hset:=Lib.hid (fun (u : Value) => show Fr false N n w (w.setCell ⟨g,U,none⟩ u) by
  obtain ⟨cs,hg⟩:=hgb.out
  exact Fr.set_rest hg (.inr rfl) hng hN)
 rcases Decidable.em (m = L) with rfl | hml
 ·have hdr : Ep.drop1 m (l :: st) = st:=by simp [Ep.drop1,HL.out]
  rw [hdr]
  have key:=Lib.hid (fun (v' : Value) => show DropPost N n lb (us ++ [.slice (some ⟨gv,ov,none⟩) l.length cv]) st b w (.returned (.tuple #[])) (((w.setCell ⟨g,U,none⟩ v').setCell ⟨lb,0,none⟩ (.slice (some ⟨g,0,none⟩) U cap)).drew) by
   have hblk : (w.setCell ⟨g,U,none⟩ v').heap[lb]? = _:=(heap_setCell_other w ⟨g,U,none⟩ lb _ n1').trans HH.out.blk
   have hset2:=Fr.set_rest (N:=N) (n:=n) (i:=0) (u:=.slice (some ⟨g,0,none⟩) U cap) hblk (.inl rfl) hnl hN
   have hR:=(HH.out.pop v').drew
   rw [← HU.out] at hR
   exact ⟨rfl,⟨_,_,hR,Sub.init _ _⟩,(hset.out v').trans ⟨hset2.os,hset2.tape,hset2.output,hset2.size,hset2.block⟩⟩)
  clear hdr
  rcases Decidable.em (m = cv) with rfl | hcv
  ·go_enter Tryz.func211,Tryz.ntmps211
   go_wp2_with fail
   go_region
   go_wp2_with fail
   go_end0
   exact key.out _
  ·go_enter Tryz.func211,Tryz.ntmps211
   go_wp2_with fail
   go_region
   go_wp2_with fail
   go_end0
   exact key.out _
 ·have hmlt : m < L:=by omega
  have hdr : Ep.drop1 m (l :: st) = l.drop m :: st:=by
   have : ¬ l.length ≤ m:=by rw [← HL.out]; omega
   simp [Ep.drop1,this]
  rw [hdr]
  have key:=Lib.hid (show DropPost N n lb (us ++ [.slice (some ⟨gv,ov,none⟩) l.length cv]) (l.drop m :: st) b w (.returned (.tuple #[])) ((w.setCell ⟨g,U,none⟩ (.slice (some ⟨gv,ov + m * 8,none⟩) (L - m) (cv - m))).drew) by
   have hp:=Hv.out.part m l.length (m * 8) (by rw [← HL.out]; omega) (Nat.le_refl _) (fun _ => rfl)
   rw [← HL.out] at hp
   have hsl : Ep.sl l m L = l.drop m:=by unfold Ep.sl; exact List.take_of_length_le (by rw [List.length_drop,← HL.out]; exact Nat.le_refl _)
   rw [hsl] at hp
   have hR:=(HH.out.setTop hp (fun e => by have:=congrArg List.length e; rw [List.length_drop,← HL.out] at this; simp at this; omega)).drew
   rw [← HU.out] at hR
   exact ⟨rfl,⟨_,_,hR,Sub.last rfl⟩,(hset.out _).trans ⟨rfl,rfl,rfl,Nat.le_refl _,fun _ _ h _ => h⟩⟩)
  clear hdr
  go_enter Tryz.func211,Tryz.ntmps211
  go_wp2_with fail
  go_region
  have q0 : ¬ (L - m = 0):=by omega
  have q1 : ¬ ((L : Int) - m = 0):=by omega
  go_wp2_with fail
  go_end0
  exact key.out
end
end Go.Proofs.YthekfpgegiffoaaGreatDoor
