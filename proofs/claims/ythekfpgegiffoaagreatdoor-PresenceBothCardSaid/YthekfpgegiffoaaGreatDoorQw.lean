/- What is proved: the walk over items and branches. (and what stands with it) -/
import Derived.Test.YthekfpgegiffoaaGreatDoorQv
import Derived.Test.YthekfpgegiffoaaGreatDoorQu
import Derived.Deep.CutRange
import Derived.Deep.Cut
import Derived.Laws.MakeOwn
import Derived.Laws.OwnMore
import Derived.Test.YthekfpgegiffoaaGreatDoorQc
import Derived.Test.YthekfpgegiffoaaGreatDoorQb
set_option linter.unusedSimpArgs false
set_option linter.unusedVariables false
set_option maxHeartbeats 16000000
set_option maxRecDepth 100000
namespace Go.Proofs.YthekfpgegiffoaaGreatDoor
section
open Go.RowKit Go.Shelf
open Bdd (Ar Nd Keep TellsN)
open Cnd.Ct Cnd.Ct.T
structure WG (Wb : World) (nad lad : Option Addr) (nc lc v L : Nat) (ns : List ByteArray) (ls : List Ln) : Prop where
 hn : Sts Wb (.slice nad v nc) ns
 hl : Lns Wb (.slice lad L lc) ls
 gv : Gv Wb
 nm : NmL ns
 vv : v = ns.length
 ll : L = ls.length
 ok : ∀ x ∈ ls,Tb x.toks ∧ x.toks.length ≤ 1000
 l6 : L ≤ 1000000
def brC (v : Nat) : Nat:=510 * 2 ^ v + 1540
def WlPost (Wb w : World) (B p m : Nat) (sv : Value) (v : Nat) (ds : List Bd.Dec) (nb L n : Nat) (R : Except (Nat × Int) Pm.Nn) (e : Ending) (w' : World) : Prop :=
 match R with
 | .error x => e = .returned (.tuple #[.int .i64 (x.1 : Int), .int .i64 x.2]) ∧ x.2 ≠ 0 ∧ Below Wb.heap.size Wb w'
 | .ok N => e = .returned (.tuple #[.int .i64 0, .int .i64 0]) ∧ ∃ sv' ds' xs,WS Wb w' B p m sv' v ds' nb L xs N ∧ Keep ds ds' ∧ ds'.length ≤ ds.length + n ∧ Kp p m nb sv w sv' w'
theorem WlPost.form {Wb w w' : World} {B p m v nb L n : Nat} {sv : Value} {ds : List Bd.Dec} {R : Except (Nat × Int) Pm.Nn} {e : Ending} (h : WlPost Wb w B p m sv v ds nb L n R e w') : ∃ a b : Int,e = .returned (.tuple #[.int .i64 a, .int .i64 b]):=by
 cases R with
 | error x => exact ⟨_,_,h.1⟩
 | ok N => exact ⟨_,_,h.1⟩
def pfn : Bool → Nat
 | true => 26
 | false => 51
def ItC (Wb : World) (nad lad : Option Addr) (nc lc B p m v nb L : Nat) (ns : List ByteArray) (ls : List Ln) (b : Bool) (t : T) : Prop :=
 ∀ (tv : Value) (x : Nat) (A : Pm.Ss) (sv : Value) (ds : List Bd.Dec) (xs : List Nat) (N : Pm.Nn) (w : World),Cnd.TS Wb (· < Wb.heap.size) b tv t → WS Wb w B p m sv v ds nb L xs N → Nd v ds x A → Pm.Wthn L b t → ds.length + brC v * Pm.brs b t ≤ 100000000 →
  Calls Tryz.prog (pfn b) #[walkV p (.slice nad v nc) (.slice lad L lc) nb L,tv, .int .i64 (x : Int)] w (WlPost Wb w B p m sv v ds nb L (brC v * Pm.brs b t) (Pm.walk ns ls b t A A N))
def Subs (P : T → Prop) : T → Prop
 | nil => True
 | cons _ _ s r => P s ∧ Subs P r
theorem Subs.mid {P : T → Prop} : ∀ {d : T} {l e : Nat} {s r : T},Subs P (d.app (cons l e s r)) → P s
 | nil,_,_,_,_,h => h.1
 | cons _ _ _ d,_,_,_,_,h => Subs.mid (d:=d) h.2
theorem within_mid {L : Nat} {b : Bool} : ∀ {d : T} {l e : Nat} {s r : T},Pm.Wthn L b (d.app (cons l e s r)) → Pm.Wthn L b (cons l e s r)
 | nil,_,_,_,_,h => h
 | cons _ _ _ d,_,_,_,_,h => by
  cases b with
  | true => exact within_mid (d:=d) h.2.2
  | false => exact within_mid (d:=d) h.2.2
theorem app_snoc (d : T) (l e : Nat) (s r : T) : d.app (cons l e s r) = (d.snoc l e s).app r:=by
 induction d with
 | nil => rfl
 | cons a b c d _ ih => simp only [app,snoc] at ih ⊢; rw [ih]
theorem two_inj {a b c d : Int} (h : Ending.returned (.tuple #[.int .i64 a, .int .i64 b]) = .returned (.tuple #[.int .i64 c, .int .i64 d])) : a = c ∧ b = d:=by simpa using h
theorem ts_at {W : World} {ok : Nat → Prop} {b : Bool} {g o n cap l e : Nat} {d s r : T} (h : Cnd.TS W ok b (.slice (some ⟨g,o,none⟩) n cap) (d.app (cons l e s r))) :
  ∃ xs ys v,(∀ j u,(xs ++ ys)[j]? = some u → W.cell? ⟨g,o + j,none⟩ = some u) ∧ xs.length = d.len * Cnd.wid b ∧ Cnd.CT W ok b ys (cons l e s r) ∧ Cnd.TS W ok (!b) v s ∧ (b = true → ∃ zs,ys = .int .i64 l :: .int .i64 e :: v :: zs) ∧ (b = false → ∃ zs,ys = .int .i64 l :: v :: zs):=by
 obtain ⟨ad,cap',e1, -, -,h3⟩:=h
 obtain ⟨g',o',zs,e2, -, -,hc,hx⟩:=h3 (by rw [len_app]; show 0 < d.len + (r.len + 1); omega)
 subst e2
 injection e1 with e1 _ _
 injection e1 with e1
 injection e1 with e3 e4 _
 subst e3
 subst e4
 obtain ⟨xs,ys,rfl,h5,h6⟩:=Cnd.CT.parts _ _ _ _ hx
 cases b with
 | true =>
  obtain ⟨v,ws,rfl,h7, -⟩:=id h6
  exact ⟨xs,_,v,hc,Cnd.CT.length _ _ _ h5,h6,h7,fun _ => ⟨ws,rfl⟩,fun h => by cases h⟩
 | false =>
  obtain ⟨v,ws,rfl,h7, -⟩:=id h6
  exact ⟨xs,_,v,hc,Cnd.CT.length _ _ _ h5,h6,h7,(fun h => by cases h),fun _ => ⟨ws,rfl⟩⟩
theorem ts_item {W : World} {ok : Nat → Prop} {g o n cap l e : Nat} {d s r : T} (h : Cnd.TS W ok true (.slice (some ⟨g,o,none⟩) n cap) (d.app (cons l e s r))) :
  W.cell? ⟨g,o + d.len * 3,none⟩ = some (.int .i64 l) ∧ W.cell? ⟨g,o + d.len * 3 + 1,none⟩ = some (.int .i64 e) ∧ ∃ v,W.cell? ⟨g,o + d.len * 3 + 2,none⟩ = some v ∧ Cnd.TS W ok false v s:=by
 obtain ⟨xs,ys,v,hc,hl, -,hs,hy, -⟩:=ts_at h
 obtain ⟨zs,rfl⟩:=hy rfl
 have hl' : xs.length = d.len * 3:=hl
 refine ⟨hc (d.len * 3) _ (by simp [hl']),?_,v,?_,hs⟩
 ·rw [Nat.add_assoc]; exact hc (d.len * 3 + 1) _ (by rw [List.getElem?_append_right (by omega),show d.len * 3 + 1 - xs.length = 1 by omega]; rfl)
 ·rw [Nat.add_assoc]; exact hc (d.len * 3 + 2) _ (by rw [List.getElem?_append_right (by omega),show d.len * 3 + 2 - xs.length = 2 by omega]; rfl)
theorem ts_branch {W : World} {ok : Nat → Prop} {g o n cap l e : Nat} {d s r : T} (h : Cnd.TS W ok false (.slice (some ⟨g,o,none⟩) n cap) (d.app (cons l e s r))) :
  W.cell? ⟨g,o + d.len * 2,none⟩ = some (.int .i64 l) ∧ ∃ v,W.cell? ⟨g,o + d.len * 2 + 1,none⟩ = some v ∧ Cnd.TS W ok true v s:=by
 obtain ⟨xs,ys,v,hc,hl, -,hs, -,hy⟩:=ts_at h
 obtain ⟨zs,rfl⟩:=hy rfl
 have hl' : xs.length = d.len * 2:=hl
 refine ⟨hc (d.len * 2) _ (by simp [hl']),v,?_,hs⟩
 rw [Nat.add_assoc]; exact hc (d.len * 2 + 1) _ (by rw [List.getElem?_append_right (by omega),show d.len * 2 + 1 - xs.length = 1 by omega]; rfl)
structure ItI (Wb W1 : World) (B p m : Nat) (sv : Value) (v : Nat) (ds : List Bd.Dec) (nb L : Nat) (ns : List ByteArray) (ls : List Ln) (t : T) (A : Pm.Ss) (R : Except (Nat × Int) Pm.Nn) (k : Nat) (d r : T) (sv' : Value) (ds' : List Bd.Dec) (xs : List Nat) (N : Pm.Nn) (wr : World) : Prop where
 tt : t = d.app r
 len : d.len = k
 res : Pm.walk ns ls true r A A N = R
 ws : WS Wb wr B p m sv' v ds' nb L xs N
 kp : Keep ds ds'
 cnt : ds'.length + brC v * Pm.brs true r ≤ ds.length + brC v * Pm.brs true t
 kk : Kp p m nb sv W1 sv' wr
theorem items_any (Wb : World) (nad lad : Option Addr) (nc lc B p m v nb L : Nat) (ns : List ByteArray) (ls : List Ln) (hW : WG Wb nad lad nc lc v L ns ls) (t : T) (hS : Subs (ItC Wb nad lad nc lc B p m v nb L ns ls false) t) : ItC Wb nad lad nc lc B p m v nb L ns ls true t:=by
 intro tv x A sv ds xs N w hT hws hx hwi hfew
 show Calls Tryz.prog 26 _ _ _
 obtain ⟨R,hR⟩ : ∃ R,R = Pm.walk ns ls true t A A N:=⟨_,rfl⟩
 rw [← hR]
 obtain ⟨tad,tcap,rfl,htl,htc, -⟩:=hT.form
 have hB1 : Below w.heap.size w (w.alloc (.cells #[.pointer (some ⟨p,0,none⟩), .slice nad v nc, .slice lad L lc, .slice (some ⟨nb,0,none⟩) L L] 76)):=(Below.refl _ w).alloc (Nat.le_refl _) _
 have hbx:=heap_alloc_new w (.cells #[.pointer (some ⟨p,0,none⟩), .slice nad v nc, .slice lad L lc, .slice (some ⟨nb,0,none⟩) L L] 76)
 have hpl : p < w.heap.size:=Bdd.lt_of_get hws.ar.blk
 have hml : m < w.heap.size:=Bdd.lt_of_get hws.ar.map
 have hsl : ∀ k,sv.ownBlock = some k → k < w.heap.size:=fun k e => (hws.ar.row.lt k e).2
 have hnl : nb < w.heap.size:=Bdd.lt_of_get hws.nd
 obtain ⟨W1,hW1⟩ : ∃ W1,W1 = w.alloc (.cells #[.pointer (some ⟨p,0,none⟩), .slice nad v nc, .slice lad L lc, .slice (some ⟨nb,0,none⟩) L L] 76):=⟨_,rfl⟩
 rw [← hW1] at hB1 hbx
 have haw : Away p m nb sv W1 w.heap.size:=⟨lt_of_heap hbx,by omega,by omega,by omega,fun e => by have:=hsl _ e; omega⟩
 have hI0 : ItI Wb W1 B p m sv v ds nb L ns ls t A R 0 nil t sv ds xs N W1:=⟨rfl,rfl,hR.symm,hws.below hB1,Keep.refl _,Nat.le_refl _,Kp.refl _ _ _ _ _⟩
 obtain ⟨n,hn⟩ : ∃ n,n = t.len:=⟨_,rfl⟩
 have HI0:=Lib.hid hI0
 have HAW:=Lib.hid haw
 have HBX:=Lib.hid hbx
 have HT:=Lib.hid hT
 have HWI:=Lib.hid hwi
 have HSS:=Lib.hid hS
 have HX:=Lib.hid hx
 have HN:=Lib.hid hn
 have HW1:=Lib.hid hW1
 have HK1:=Lib.hid (Kp.of_below p m nb sv hB1)
 have HF:=Lib.hid hfew
 have HWG:=Lib.hid hW
 have hL6:=hW.l6
 rw [← hn] at htl ⊢
 unfold maxLen at htc
 clear hI0 haw hbx hT hwi hS hx hn hW1 hB1 hfew hW hws hpl hml hsl hnl hR
 unfold walkV
 go_enter Tryz.func26,Tryz.ntmps26
 go_wp2_with fail
 rw [← HW1.out]
 go_loopw [14] (fun a wr => ∃ (k : Nat) (d r : T) (sv' : Value) (ds' : List Bd.Dec) (xs' : List Nat) (N' : Pm.Nn),a = .int .i64 k ∧ k ≤ n ∧ ItI Wb W1 B p m sv v ds nb L ns ls t A R k d r sv' ds' xs' N' wr) (fun a _ => n - (intOf a).toNat)
 case atStart => exact ⟨0,nil,t,sv,ds,xs,N,rfl,Nat.zero_le _,HI0.out⟩
 case round =>
  obtain ⟨k,d,r,sv',ds',xs',N',rfl,hk,hI⟩:=hrel
  have hlen:=hI.tt ▸ HN.out
  rw [len_app,hI.len] at hlen
  cases r with
  | nil =>
   rw [show (nil : T).len = 0 from rfl,Nat.add_zero] at hlen
   subst hlen
   have hr : R = .ok N':=hI.res.symm
   subst hr
   have hfin : WlPost Wb w B p m sv v ds nb L (brC v * Pm.brs true t) (.ok N') (.returned (.tuple #[.int .i64 0, .int .i64 0])) wr :=
    ⟨rfl,sv',ds',xs',hI.ws,hI.kp,by have:=hI.cnt; have : Pm.brs true nil = 0:=rfl; omega,HK1.out.trans hI.kk⟩
   have HFin:=Lib.hid hfin
   clear hfin hI
   go_wp2_with fail
   go_ret2
   exact HFin.out
  | cons l e s r' =>
   have hlt : k < n:=by
    have : (cons l e s r' : T).len = r'.len + 1:=rfl
    omega
   have z1 : (0 : Int) ≤ k:=by omega
   have z2 : (k : Int) < n:=by omega
   have hT2:=HT.out
   rw [hI.tt] at hT2
   obtain ⟨tg,tof,rfl⟩ : ∃ g o,tad = some ⟨g,o,none⟩:=by
    obtain ⟨ad',cap',e1, -, -,h4⟩:=HT.out.form
    injection e1 with e1 _ _
    obtain ⟨g,o,e, -⟩:=h4 (by rw [← HN.out]; omega)
    exact ⟨g,o,e1.trans e⟩
   obtain ⟨d0,d1,sub,d2,hsub⟩:=ts_item hT2
   obtain ⟨sad,scap,rfl, -, -, -⟩:=hsub.form
   rw [hI.len] at d0 d1 d2
   have hwi:=within_mid (hI.tt ▸ HWI.out)
   have hsS:=Subs.mid (hI.tt ▸ HSS.out)
   have hle : e < L:=hwi.1
   have hbl:=hI.ws.bl
   have hgl : tg < Wb.heap.size:=Cnd.lt_of_cell d0
   replace d0:=(hbl.cell (p:=⟨tg,tof + k * 3,none⟩) hgl).trans d0
   replace d1:=(hbl.cell (p:=⟨tg,tof + k * 3 + 1,none⟩) hgl).trans d1
   replace d2:=(hbl.cell (p:=⟨tg,tof + k * 3 + 2,none⟩) hgl).trans d2
   obtain ⟨q1,q2⟩:=HI0.out.kk.trans hI.kk |>.blk _ HAW.out
   have hbx:=q1.trans HBX.out
   obtain ⟨V,hV⟩ : ∃ V,V = wr.alloc (.cells #[.int .i64 l, .int .i64 e, .slice sad s.len scap] 124):=⟨_,rfl⟩
   have hBV : Below wr.heap.size wr V:=by rw [hV]; exact (Below.refl _ wr).alloc (Nat.le_refl _) _
   have hbV : V.heap[wr.heap.size]? = some (.cells #[.int .i64 l, .int .i64 e, .slice sad s.len scap] 124 (0,0)):=by rw [hV]; exact heap_alloc_new wr _
   have hnb:=Bdd.lt_of_get hI.ws.nd
   have hxk:=HX.out.keep hI.kp
   have hws2:=(hI.ws.below hBV).put (i:=e) hxk
   obtain ⟨V2,hV2⟩ : ∃ V2,V2 = V.setCell ⟨nb,e,none⟩ (.int .i64 (x : Int)):=⟨_,rfl⟩
   rw [← hV2] at hws2
   have hbx1:=(hBV.block w.heap.size q2.lt).trans hbx
   have hbx2 : V2.heap[w.heap.size]? = some (.cells #[.pointer (some ⟨p,0,none⟩), .slice nad v nc, .slice lad L lc, .slice (some ⟨nb,0,none⟩) L L] 76 (0,0)):=by rw [hV2]; exact (heap_setCell_other V ⟨nb,e,none⟩ _ _ q2.nn).trans hbx1
   have hbV2 : V2.heap[wr.heap.size]? = some (.cells #[.int .i64 l, .int .i64 e, .slice sad s.len scap] 124 (0,0)):=by rw [hV2]; exact (heap_setCell_other V ⟨nb,e,none⟩ _ _ (by show wr.heap.size ≠ nb; omega)).trans hbV
   have hnd:=(Lib.cell_of_heap (hI.ws.below hBV).nd e).trans (nodeCells_get (List.getElem?_eq_getElem (by rw [hI.ws.len]; exact hle)))
   obtain ⟨y,hy⟩ : ∃ y : Nat,V.cell? ⟨nb,e,none⟩ = some (.int .i64 (y : Int)):=⟨_,hnd⟩
   have a3 : V.cell? ⟨w.heap.size,3,none⟩ = some (.slice (some ⟨nb,0,none⟩) L L):=(Lib.cell_of_heap hbx1 3).trans rfl
   have af : V.frozen? ⟨nb,e,none⟩ = false:=Lib.frozen_of_heap (hI.ws.below hBV).nd e
   have a1 : V.cell? ⟨wr.heap.size,1,none⟩ = some (.int .i64 e):=(Lib.cell_of_heap hbV 1).trans rfl
   have b0 : V2.cell? ⟨w.heap.size,0,none⟩ = some (.pointer (some ⟨p,0,none⟩)):=(Lib.cell_of_heap hbx2 0).trans rfl
   have b1 : V2.cell? ⟨w.heap.size,1,none⟩ = some (.slice nad v nc):=(Lib.cell_of_heap hbx2 1).trans rfl
   have b2 : V2.cell? ⟨w.heap.size,2,none⟩ = some (.slice lad L lc):=(Lib.cell_of_heap hbx2 2).trans rfl
   have b3 : V2.cell? ⟨w.heap.size,3,none⟩ = some (.slice (some ⟨nb,0,none⟩) L L):=(Lib.cell_of_heap hbx2 3).trans rfl
   have a2 : V2.cell? ⟨wr.heap.size,2,none⟩ = some (.slice sad s.len scap):=(Lib.cell_of_heap hbV2 2).trans rfl
   have hcnt : ds'.length + brC v * Pm.brs false s + brC v * Pm.brs true r' ≤ ds.length + brC v * Pm.brs true t:=by
    have:=hI.cnt
    rw [show Pm.brs true (cons l e s r') = Pm.brs false s + Pm.brs true r' from rfl,Nat.mul_add] at this
    omega
   have KC:=Lib.hid (hsS _ x A sv' ds' _ _ V2 hsub hws2 hxk hwi.2.1 (by have:=HF.out; omega))
   have hres : (match Pm.walk ns ls false s A A (Pm.put N' e A) with | .error x => .error x | .ok N1 => Pm.walk ns ls true r' A A N1) = R:=hI.res
   have hkp : Kp p m nb sv W1 sv' V2:=(hI.kk.trans (Kp.of_below p m nb sv' hBV)).trans (by rw [hV2]; exact Kp.of_set p m nb sv' V e _)
   have HStep:=Lib.hid (And.intro hres (And.intro hkp (And.intro hcnt (And.intro hI.kp (And.intro hI.tt hI.len)))))
   have hLe : L ≤ 1000000:=hL6
   have y1 : (0 : Int) ≤ e:=by omega
   have y2 : (e : Int) < L:=by omega
   rw [hV2] at KC b0 b1 b2 b3 a2 HStep
   rw [hV] at KC b0 b1 b2 b3 a2 a1 a3 af hy HStep
   unfold walkV at KC
   change Hid (Calls Tryz.prog 51 _ _ _) at KC
   clear hI hT2 hwi hsS hbl hgl hsub hbx hlen q1 q2 hV hV2 hBV hbV hnb hxk hws2 hbx1 hbx2 hbV2 hnd hcnt hres hkp hle
   go_wp2_with fail
   refine KC.out.mono ?_
   intro e2 w5 hp
   obtain ⟨p1,p2,rfl⟩:=hp.form
   have hp2 : WlPost Wb w B p m sv v ds nb L (brC v * Pm.brs true t) R (.returned (.tuple #[.int .i64 p1, .int .i64 p2])) w5 ∧ p2 ≠ 0 ∨ p2 = 0 ∧ ∃ sv' ds' xs' N',ItI Wb W1 B p m sv v ds nb L ns ls t A R (k + 1) (d.snoc l e s) r' sv' ds' xs' N' w5:=by
    obtain ⟨hr,hkp,hcnt,hk1,htt,hlen⟩:=HStep.out
    revert hp hr
    generalize Pm.walk ns ls false s A A (Pm.put N' e A) = R'
    intro hp hr
    cases R' with
    | error y =>
     replace hr : Except.error y = R:=hr
     subst hr
     obtain ⟨h1,h2,h3⟩:=hp
     obtain ⟨e1,e2⟩:=two_inj h1
     exact .inl ⟨⟨by rw [e1,e2],h2,h3⟩,by rw [e2]; exact h2⟩
    | ok N1 =>
     replace hr : Pm.walk ns ls true r' A A N1 = R:=hr
     obtain ⟨h1,sv3,ds3,xs3,h2,h3,h4,h5⟩:=hp
     obtain ⟨e1,e2⟩:=two_inj h1
     exact .inr ⟨e2,sv3,ds3,xs3,N1,by rw [htt,app_snoc],by rw [len_snoc,hlen],hr,h2,hk1.trans h3,by omega,hkp.trans h5⟩
   clear hp HStep
   rcases hp2 with ⟨hp2,h0⟩ | ⟨rfl,hp2⟩
   ·have HP:=Lib.hid hp2
    have h1 : (p2 == 0) = false:=by simpa using h0
    clear hp2 h0
    go_wp2_with fail
    go_ret2
    exact HP.out
   ·have HP:=Lib.hid hp2
    clear hp2
    go_wp2_with fail
    obtain ⟨sv3,ds3,xs3,N3,h3⟩:=HP.out
    exact ⟨⟨k + 1,_,_,sv3,ds3,xs3,N3,by rw [Int.natCast_add]; rfl,hlt,h3⟩,by show n - ((k : Int) + 1).toNat < n - (k : Int).toNat; omega⟩
end
section
open Go.RowKit Go.Shelf
open Bdd (Ar Nd Keep TellsN)
open Cnd.Ct Cnd.Ct.T
theorem CondPost.away {V w' : World} {B p m v nb : Nat} {sv : Value} {ds : List Bd.Dec} {r : Except Int Pm.Ss} {e : Ending} (h : CondPost V B p m sv v ds r e w') {b : Nat} (hb : Away p m nb sv V b) : w'.heap[b]? = V.heap[b]?:=by
 cases r with
 | error k => exact h.2.2.block b hb.lt
 | ok Q =>
  obtain ⟨n,ds',sv', -, -, -, -, -,hF⟩:=h
  exact ((Kp.of_fr nb hF).blk b hb).1
theorem cells_same {V W : World} {b o : Nat} (h : W.heap[b]? = V.heap[b]?) {x : Option Value} (hc : V.cell? ⟨b,o,none⟩ = x) : W.cell? ⟨b,o,none⟩ = x:=(World.cell?_of_block (a:=⟨b,o,none⟩) h).trans hc
structure BrI (Wb W1 : World) (B p m : Nat) (sv : Value) (v : Nat) (ds : List Bd.Dec) (nb L : Nat) (ns : List ByteArray) (ls : List Ln) (t : T) (A : Pm.Ss) (R : Except (Nat × Int) Pm.Nn) (k y : Nat) (Lf : Pm.Ss) (d r : T) (sv' : Value) (ds' : List Bd.Dec) (xs : List Nat) (N : Pm.Nn) (wr : World) : Prop where
 tt : t = d.app r
 len : d.len = k
 res : Pm.walk ns ls false r A Lf N = R
 lf : Nd v ds' y Lf
 ws : WS Wb wr B p m sv' v ds' nb L xs N
 kp : Keep ds ds'
 cnt : ds'.length + brC v * Pm.brs false r ≤ ds.length + brC v * Pm.brs false t
 kk : Kp p m nb sv W1 sv' wr
theorem branches_any (Wb : World) (nad lad : Option Addr) (nc lc B p m v nb L : Nat) (ns : List ByteArray) (ls : List Ln) (hW : WG Wb nad lad nc lc v L ns ls) (t : T) (hS : Subs (ItC Wb nad lad nc lc B p m v nb L ns ls true) t) : ItC Wb nad lad nc lc B p m v nb L ns ls false t:=by
 intro tv x A sv ds xs N w hT hws hx hwi hfew
 show Calls Tryz.prog 51 _ _ _
 obtain ⟨R,hR⟩ : ∃ R,R = Pm.walk ns ls false t A A N:=⟨_,rfl⟩
 rw [← hR]
 obtain ⟨tad,tcap,rfl,htl,htc, -⟩:=hT.form
 have hB1 : Below w.heap.size w (w.alloc (.cells #[.pointer (some ⟨p,0,none⟩), .slice nad v nc, .slice lad L lc, .slice (some ⟨nb,0,none⟩) L L] 76)):=(Below.refl _ w).alloc (Nat.le_refl _) _
 have hbx:=heap_alloc_new w (.cells #[.pointer (some ⟨p,0,none⟩), .slice nad v nc, .slice lad L lc, .slice (some ⟨nb,0,none⟩) L L] 76)
 have hpl : p < w.heap.size:=Bdd.lt_of_get hws.ar.blk
 have hml : m < w.heap.size:=Bdd.lt_of_get hws.ar.map
 have hsl : ∀ k,sv.ownBlock = some k → k < w.heap.size:=fun k e => (hws.ar.row.lt k e).2
 have hnl : nb < w.heap.size:=Bdd.lt_of_get hws.nd
 obtain ⟨W1,hW1⟩ : ∃ W1,W1 = w.alloc (.cells #[.pointer (some ⟨p,0,none⟩), .slice nad v nc, .slice lad L lc, .slice (some ⟨nb,0,none⟩) L L] 76):=⟨_,rfl⟩
 rw [← hW1] at hB1 hbx
 have haw : Away p m nb sv W1 w.heap.size:=⟨lt_of_heap hbx,by omega,by omega,by omega,fun e => by have:=hsl _ e; omega⟩
 have hI0 : BrI Wb W1 B p m sv v ds nb L ns ls t A R 0 x A nil t sv ds xs N W1:=⟨rfl,rfl,hR.symm,hx,hws.below hB1,Keep.refl _,Nat.le_refl _,Kp.refl _ _ _ _ _⟩
 obtain ⟨n,hn⟩ : ∃ n,n = t.len:=⟨_,rfl⟩
 have HI0:=Lib.hid hI0
 have HAW:=Lib.hid haw
 have HBX:=Lib.hid hbx
 have HT:=Lib.hid hT
 have HWI:=Lib.hid hwi
 have HSS:=Lib.hid hS
 have HX:=Lib.hid hx
 have HN:=Lib.hid hn
 have HW1:=Lib.hid hW1
 have HK1:=Lib.hid (Kp.of_below p m nb sv hB1)
 have HF:=Lib.hid hfew
 have HWG:=Lib.hid hW
 have hL6:=hW.l6
 rw [← hn] at htl ⊢
 unfold maxLen at htc
 clear hI0 haw hbx hT hwi hS hx hn hW1 hB1 hfew hW hws hpl hml hsl hnl hR
 unfold walkV
 go_enter Tryz.func51,Tryz.ntmps51
 go_wp2_with fail
 rw [← HW1.out]
 go_loopw [8,18] (fun o a wr => ∃ (k y : Nat) (Lf : Pm.Ss) (d r : T) (sv' : Value) (ds' : List Bd.Dec) (xs' : List Nat) (N' : Pm.Nn),o = .int .i64 (y : Int) ∧ a = .int .i64 k ∧ k ≤ n ∧ BrI Wb W1 B p m sv v ds nb L ns ls t A R k y Lf d r sv' ds' xs' N' wr) (fun _ a _ => n - (intOf a).toNat)
 case atStart => exact ⟨0,x,A,nil,t,sv,ds,xs,N,rfl,rfl,Nat.zero_le _,HI0.out⟩
 case round =>
  obtain ⟨k,y,Lf,d,r,sv',ds',xs',N',rfl,rfl,hk,hI⟩:=hrel
  have hlen:=hI.tt ▸ HN.out
  rw [len_app,hI.len] at hlen
  cases r with
  | nil =>
   rw [show (nil : T).len = 0 from rfl,Nat.add_zero] at hlen
   subst hlen
   have hr : R = .ok N':=hI.res.symm
   subst hr
   have hfin : WlPost Wb w B p m sv v ds nb L (brC v * Pm.brs false t) (.ok N') (.returned (.tuple #[.int .i64 0, .int .i64 0])) wr :=
    ⟨rfl,sv',ds',xs',hI.ws,hI.kp,by have:=hI.cnt; have : Pm.brs false nil = 0:=rfl; omega,HK1.out.trans hI.kk⟩
   have HFin:=Lib.hid hfin
   clear hfin hI
   go_wp2_with fail
   go_ret2
   exact HFin.out
  | cons l e s r' =>
   have hlt : k < n:=by
    have : (cons l e s r' : T).len = r'.len + 1:=rfl
    omega
   have z1 : (0 : Int) ≤ k:=by omega
   have z2 : (k : Int) < n:=by omega
   have hT2:=HT.out
   rw [hI.tt] at hT2
   obtain ⟨tg,tof,rfl⟩ : ∃ g o,tad = some ⟨g,o,none⟩:=by
    obtain ⟨ad',cap',e1, -, -,h4⟩:=HT.out.form
    injection e1 with e1 _ _
    obtain ⟨g,o,e, -⟩:=h4 (by rw [← HN.out]; omega)
    exact ⟨g,o,e1.trans e⟩
   obtain ⟨d0,sub,d1,hsub⟩:=ts_branch hT2
   obtain ⟨sad,scap,rfl, -, -, -⟩:=hsub.form
   rw [hI.len] at d0 d1
   have hwi:=within_mid (hI.tt ▸ HWI.out)
   have hsS:=Subs.mid (hI.tt ▸ HSS.out)
   have hle : l < L:=hwi.1
   have hbl:=hI.ws.bl
   have hgl : tg < Wb.heap.size:=Cnd.lt_of_cell d0
   replace d0:=(hbl.cell (p:=⟨tg,tof + k * 2,none⟩) hgl).trans d0
   replace d1:=(hbl.cell (p:=⟨tg,tof + k * 2 + 1,none⟩) hgl).trans d1
   obtain ⟨q1,q2⟩:=HI0.out.kk.trans hI.kk |>.blk _ HAW.out
   have hbx:=q1.trans HBX.out
   obtain ⟨V,hV⟩ : ∃ V,V = wr.alloc (.cells #[.int .i64 l, .slice sad s.len scap] 148):=⟨_,rfl⟩
   have hBV : Below wr.heap.size wr V:=by rw [hV]; exact (Below.refl _ wr).alloc (Nat.le_refl _) _
   have hbV : V.heap[wr.heap.size]? = some (.cells #[.int .i64 l, .slice sad s.len scap] 148 (0,0)):=by rw [hV]; exact heap_alloc_new wr _
   have hnb:=Bdd.lt_of_get hI.ws.nd
   have hxk:=HX.out.keep hI.kp
   have hws2:=(hI.ws.below hBV).put (i:=l) hxk
   obtain ⟨V2,hV2⟩ : ∃ V2,V2 = V.setCell ⟨nb,l,none⟩ (.int .i64 (x : Int)):=⟨_,rfl⟩
   rw [← hV2] at hws2
   have q3 : Away p m nb sv' V w.heap.size:=((Kp.of_below p m nb sv' hBV).blk _ q2).2
   have hbx1:=(hBV.block w.heap.size q2.lt).trans hbx
   have hbx2 : V2.heap[w.heap.size]? = some (.cells #[.pointer (some ⟨p,0,none⟩), .slice nad v nc, .slice lad L lc, .slice (some ⟨nb,0,none⟩) L L] 76 (0,0)):=by rw [hV2]; exact (heap_setCell_other V ⟨nb,l,none⟩ _ _ q2.nn).trans hbx1
   have hbV2 : V2.heap[wr.heap.size]? = some (.cells #[.int .i64 l, .slice sad s.len scap] 148 (0,0)):=by rw [hV2]; exact (heap_setCell_other V ⟨nb,l,none⟩ _ _ (by show wr.heap.size ≠ nb; omega)).trans hbV
   have hnd:=(Lib.cell_of_heap (hI.ws.below hBV).nd l).trans (nodeCells_get (List.getElem?_eq_getElem (by rw [hI.ws.len]; exact hle)))
   obtain ⟨yy,hy⟩ : ∃ y : Nat,V.cell? ⟨nb,l,none⟩ = some (.int .i64 (y : Int)):=⟨_,hnd⟩
   have a3 : V.cell? ⟨w.heap.size,3,none⟩ = some (.slice (some ⟨nb,0,none⟩) L L):=(Lib.cell_of_heap hbx1 3).trans rfl
   have af : V.frozen? ⟨nb,l,none⟩ = false:=Lib.frozen_of_heap (hI.ws.below hBV).nd l
   have a0 : V.cell? ⟨wr.heap.size,0,none⟩ = some (.int .i64 l):=(Lib.cell_of_heap hbV 0).trans rfl
   have b0 : V2.cell? ⟨w.heap.size,0,none⟩ = some (.pointer (some ⟨p,0,none⟩)):=(Lib.cell_of_heap hbx2 0).trans rfl
   have b1 : V2.cell? ⟨w.heap.size,1,none⟩ = some (.slice nad v nc):=(Lib.cell_of_heap hbx2 1).trans rfl
   have b2 : V2.cell? ⟨w.heap.size,2,none⟩ = some (.slice lad L lc):=(Lib.cell_of_heap hbx2 2).trans rfl
   have b4 : V2.cell? ⟨wr.heap.size,0,none⟩ = some (.int .i64 l):=(Lib.cell_of_heap hbV2 0).trans rfl
   have q4 : Away p m nb sv' V2 w.heap.size:=by rw [hV2]; exact ((Kp.of_set p m nb sv' V l _).blk _ q3).2
   have q5 : Away p m nb sv' V2 wr.heap.size:=⟨lt_of_heap hbV2,by have:=Bdd.lt_of_get hI.ws.ar.blk; omega,by have:=Bdd.lt_of_get hI.ws.ar.map; omega,by omega,fun e => by have:=(hI.ws.ar.row.lt _ e).2; omega⟩
   have hcnt : ds'.length + brC v + brC v * Pm.brs true s + brC v * Pm.brs false r' ≤ ds.length + brC v * Pm.brs false t:=by
    have:=hI.cnt
    rw [show Pm.brs false (cons l e s r') = 1 + Pm.brs true s + Pm.brs false r' from rfl,Nat.mul_add,Nat.mul_add,Nat.mul_one] at this
    omega
   have hWG:=HWG.out
   obtain ⟨ln,hln⟩ : ∃ ln,ln = Pm.line ls l:=⟨_,rfl⟩
   have hgl2 : ls[l]? = some ln:=by
    rw [hln]
    unfold Pm.line
    rw [List.getD_eq_getElem?_getD,List.getElem?_eq_getElem (by rw [← hWG.ll]; exact hle)]
    rfl
   have hBd : Below Wb.heap.size Wb V2.drew:=hws2.bl.drew
   have hlns:=hWG.hl.below hws2.bl
   obtain ⟨lad',lcap',le1,lc1,lc2,lc3⟩:=id hlns
   injection le1 with le1 le2 le3
   subst le1 le3
   obtain ⟨lg,lo,rfl,lv,x0,x1,x2,x3,hks⟩:=lc3 l ln hgl2
   obtain ⟨kad,kcap,rfl,kc1,kc2, -⟩:=id hks
   have hws3:=hws2.below (Below.refl _ V2).drew
   have hwl:=(hWG.ok ln (List.mem_of_getElem? hgl2))
   have hres : (match Pm.cond ns ln.kind ln.toks Lf with | .error k => .error (l,k) | .ok Q => match Pm.walk ns ls true s Q Q (Pm.put N' l A) with | .error x => .error x | .ok N1 => Pm.walk ns ls false r' A (fun s => Lf s && !Q s) N1) = R:=by rw [hln]; exact hI.res
   have KC:=Lib.hid (cond_any B p m v y sv' ds' (.slice nad v nc) (.slice kad ln.toks.length kcap) ns ln Lf V2.drew hws3.ar hI.lf (hWG.hn.below hBd) (hks.below (Below.refl _ V2).drew) (hWG.gv.later hBd) hWG.nm hWG.vv hwl.1 hwl.2 (by have:=HF.out; have : brC v = 510 * 2 ^ v + 1540:=rfl; omega))
   have HStep:=Lib.hid (And.intro hres (And.intro (hI.kk.trans (Kp.of_below p m nb sv' hBV)) (And.intro hcnt (And.intro hI.kp (And.intro hI.tt (And.intro hI.len (And.intro hI.lf hxk)))))))
   have HV2:=Lib.hid (show V2 = (wr.alloc (.cells #[.int .i64 l, .slice sad s.len scap] 148)).setCell ⟨nb,l,none⟩ (.int .i64 (x : Int)) by rw [hV2,hV])
   have HWS:=Lib.hid hws3
   have HWS2:=Lib.hid hws2
   have hkp2 : Kp p m nb sv' V sv' V2:=by rw [hV2]; exact Kp.of_set p m nb sv' V l _
   have HKP2:=Lib.hid hkp2
   have HSub:=Lib.hid hsub
   have HSS2:=Lib.hid hsS
   have HWI2:=Lib.hid hwi
   have HQ4:=Lib.hid q4
   have HQ5:=Lib.hid q5
   have hlgl : lg < Wb.heap.size:=by
    obtain ⟨lad',lcap',le1, -, -,lc4⟩:=id hWG.hl
    injection le1 with le1 _ _
    obtain ⟨lg',lo',le4,lv',z0, -⟩:=lc4 l ln hgl2
    have:=le1.trans le4
    injection this with this
    injection this with this _ _
    rw [this]
    exact lt_of_cell z0
   have HQ6:=Lib.hid (show Away p m nb sv' V2 lg from ⟨Nat.lt_of_lt_of_le hlgl hws2.bl.size,by have:=hws2.ar.hp; have:=hws2.hB; omega,by have:=hws2.ar.hm; have:=hws2.hB; omega,by have:=hws2.hnb; omega,fun e => by have:=(hws2.ar.row.lt _ e).1; have:=hws2.hB; omega⟩)
   have HBX2:=Lib.hid hbx2
   have HBV2:=Lib.hid hbV2
   have y1 : (0 : Int) ≤ l:=by omega
   have y2 : (l : Int) < L:=by omega
   obtain ⟨T0,hT0⟩ : ∃ T0,T0 = ln.toks.length:=⟨_,rfl⟩
   rw [hV] at a0 a3 af hy
   unfold lineV at KC
   rw [← hT0] at KC x3 kc1
   unfold maxLen at kc2 lc2
   clear hI hT2 hwi hsS hbl hgl hsub hbx hlen q1 q2 q3 q4 q5 hV hV2 hBV hbV hnb hxk hws2 hws3 hbx1 hbx2 hbV2 hnd hcnt hres hkp2 hle hln hgl2 hBd hlns lc3 hks hwl hWG lc1 le2 hT0
   go_wp2_with fail
   rw [← HV2.out]
   clear a0 a3 af hy
   have hsame : ∀ (e2 : Ending) (w5 : World),CondPost V2.drew B p m sv' v ds' (Pm.cond ns ln.kind ln.toks Lf) e2 w5 → (w5.cell? ⟨w.heap.size,0,none⟩ = some (.pointer (some ⟨p,0,none⟩)) ∧ w5.cell? ⟨w.heap.size,1,none⟩ = some (.slice nad v nc) ∧ w5.cell? ⟨w.heap.size,2,none⟩ = some (.slice (some ⟨lg,lo,none⟩) L lc) ∧ w5.cell? ⟨wr.heap.size,0,none⟩ = some (.int .i64 l) ∧
      w5.cell? ⟨lg,lo + l * 4,none⟩ = some (.int .i64 ln.kind) ∧ w5.cell? ⟨lg,lo + l * 4 + 1,none⟩ = some (.int .i64 ln.first) ∧ w5.cell? ⟨lg,lo + l * 4 + 2,none⟩ = some (.int .i64 ln.n) ∧ w5.cell? ⟨lg,lo + l * 4 + 3,none⟩ = some (.slice kad T0 kcap)) ∧ Hid (CondPost V2.drew B p m sv' v ds' (Pm.cond ns ln.kind ln.toks Lf) e2 w5):=by
    intro e2 w5 hp
    have hB3 : Below V2.heap.size V2 V2.drew:=(Below.refl _ V2).drew
    have u4:=hp.away ((Kp.of_below p m nb sv' hB3).blk _ HQ4.out).2
    have u5:=hp.away ((Kp.of_below p m nb sv' hB3).blk _ HQ5.out).2
    have u6:=hp.away ((Kp.of_below p m nb sv' hB3).blk _ HQ6.out).2
    exact ⟨⟨cells_same u4 b0,cells_same u4 b1,cells_same u4 b2,cells_same u5 b4,cells_same u6 x0,cells_same u6 x1,cells_same u6 x2,cells_same u6 x3⟩,Lib.hid hp⟩
   have HSame:=Lib.hid hsame
   clear hsame
   go_cut [11,12] from 28 to 42 (fun a b wx => ∃ p1 p2 : Int,a = .int .i64 p1 ∧ b = .int .i64 p2 ∧ CondPost V2.drew B p m sv' v ds' (Pm.cond ns ln.kind ln.toks Lf) (.returned (.tuple #[.int .i64 p1, .int .i64 p2])) wx)
   case first =>
    have g0 : V2.drew.cell? ⟨w.heap.size,0,none⟩ = some (.pointer (some ⟨p,0,none⟩)):=b0
    have g1 : V2.drew.cell? ⟨w.heap.size,1,none⟩ = some (.slice nad v nc):=b1
    have g2 : V2.drew.cell? ⟨w.heap.size,2,none⟩ = some (.slice (some ⟨lg,lo,none⟩) L lc):=b2
    have g4 : V2.drew.cell? ⟨wr.heap.size,0,none⟩ = some (.int .i64 l):=b4
    have t0 : V2.drew.cell? ⟨lg,lo + l * 4,none⟩ = some (.int .i64 ln.kind):=x0
    have t1 : V2.drew.cell? ⟨lg,lo + l * 4 + 1,none⟩ = some (.int .i64 ln.first):=x1
    have t2 : V2.drew.cell? ⟨lg,lo + l * 4 + 2,none⟩ = some (.int .i64 ln.n):=x2
    have t3 : V2.drew.cell? ⟨lg,lo + l * 4 + 3,none⟩ = some (.slice kad T0 kcap):=x3
    go_region_held3 (fun w' => w'.cell? ⟨w.heap.size,0,none⟩ = some (.pointer (some ⟨p,0,none⟩)) ∧ w'.cell? ⟨w.heap.size,1,none⟩ = some (.slice nad v nc) ∧ w'.cell? ⟨w.heap.size,2,none⟩ = some (.slice (some ⟨lg,lo,none⟩) L lc) ∧ w'.cell? ⟨wr.heap.size,0,none⟩ = some (.int .i64 l) ∧
      w'.cell? ⟨lg,lo + l * 4,none⟩ = some (.int .i64 ln.kind) ∧ w'.cell? ⟨lg,lo + l * 4 + 1,none⟩ = some (.int .i64 ln.first) ∧ w'.cell? ⟨lg,lo + l * 4 + 2,none⟩ = some (.int .i64 ln.n) ∧ w'.cell? ⟨lg,lo + l * 4 + 3,none⟩ = some (.slice kad T0 kcap))
     (first | exact ⟨g0,g1,g2,g4,t0,t1,t2,t3⟩ | exact h5)
     (first | (go_at_call 16; (with_reducible refine KC.out.mono ?_); intro e2 w5 hp; obtain ⟨p1,p2,rfl⟩:=hp.form; obtain ⟨h5,HP⟩:=HSame.out _ _ hp))
    all_goals
     go_wp2_with fail
     go_meet
     exact ⟨_,_,rfl,rfl,HP.out⟩
   case rest =>
   obtain ⟨p1,p2,rfl,rfl,hp⟩:=hcut
   generalize wc = w5 at hp ⊢
   clear b0 b1 b2 b4 x0 x1 x2 x3
   have hB3 : Below V2.heap.size V2 V2.drew:=(Below.refl _ V2).drew
   have hq4:=(Kp.of_below p m nb sv' hB3).blk _ HQ4.out
   have hq5:=(Kp.of_below p m nb sv' hB3).blk _ HQ5.out
   obtain ⟨hres,hkp,hcnt,hk1,htt,hlen,hlf,hxk⟩:=HStep.out
   have hp2 : (p2 ≠ 0 ∧ WlPost Wb w B p m sv v ds nb L (brC v * Pm.brs false t) R (.returned (.tuple #[.int .i64 l, .int .i64 p2])) w5 ∧ w5.cell? ⟨wr.heap.size,0,none⟩ = some (.int .i64 l)) ∨
     p2 = 0 ∧ ∃ (nq : Nat) (ds5 : List Bd.Dec) (sv5 : Value) (Q : Pm.Ss),p1 = (nq : Int) ∧ Nd v ds5 nq Q ∧ Keep ds' ds5 ∧ ds5.length ≤ ds'.length + (510 * 2 ^ v + 1020) ∧ WS Wb w5 B p m sv5 v ds5 nb L (xs'.set l x) (Pm.put N' l A) ∧ Kp p m nb sv' V2 sv5 w5 ∧
      (match Pm.walk ns ls true s Q Q (Pm.put N' l A) with | .error x => .error x | .ok N1 => Pm.walk ns ls false r' A (fun s => Lf s && !Q s) N1) = R:=by
    revert hp hres
    generalize Pm.cond ns ln.kind ln.toks Lf = R'
    intro hp hr
    cases R' with
    | error c =>
     replace hr : Except.error (l,c) = R:=hr
     subst hr
     obtain ⟨h1,h2,h3⟩:=hp
     obtain ⟨e1,rfl⟩:=two_inj h1
     refine .inl ⟨h2,⟨rfl,h2,HWS.out.bl.trans (h3.mono HWS.out.bl.size)⟩,?_⟩
     have hb:=(h3.block wr.heap.size hq5.2.lt).trans (hq5.1.trans HBV2.out)
     exact (Lib.cell_of_heap hb 0).trans rfl
    | ok Q =>
     obtain ⟨nq,ds5,sv5,hQ,hk5,hl5,h1,hA5,hF5⟩:=hp
     obtain ⟨e1,e2⟩:=two_inj h1
     exact .inr ⟨e2,nq,ds5,sv5,Q,e1,hQ,hk5,hl5,HWS.out.fr hA5 hk5 hF5,(Kp.of_below p m nb sv' hB3).trans (Kp.of_fr nb hF5),hr⟩
   clear hp hres hq4 hq5 hB3
   rcases hp2 with ⟨h0,hp2,a0⟩ | ⟨rfl,nq,ds5,sv5,Q,rfl,hQ,hk5,hl5,hws5,hkp5,hres5⟩
   ·have HP:=Lib.hid hp2
    have h1 : (p2 == 0) = false:=by simpa using h0
    clear hp2 h0 hkp hcnt hk1 htt hlen hlf hxk KC HStep
    go_wp2_with fail
    go_ret2
    exact HP.out
   ·have hc5:=(hkp5.blk _ HQ4.out).1.trans HBX2.out
    have hd5:=(hkp5.blk _ HQ5.out).1.trans HBV2.out
    have b0 : w5.cell? ⟨w.heap.size,0,none⟩ = some (.pointer (some ⟨p,0,none⟩)):=(Lib.cell_of_heap hc5 0).trans rfl
    have b1 : w5.cell? ⟨w.heap.size,1,none⟩ = some (.slice nad v nc):=(Lib.cell_of_heap hc5 1).trans rfl
    have b2 : w5.cell? ⟨w.heap.size,2,none⟩ = some (.slice (some ⟨lg,lo,none⟩) L lc):=(Lib.cell_of_heap hc5 2).trans rfl
    have b3 : w5.cell? ⟨w.heap.size,3,none⟩ = some (.slice (some ⟨nb,0,none⟩) L L):=(Lib.cell_of_heap hc5 3).trans rfl
    have a1 : w5.cell? ⟨wr.heap.size,1,none⟩ = some (.slice sad s.len scap):=(Lib.cell_of_heap hd5 1).trans rfl
    have hbc : brC v = 510 * 2 ^ v + 1540:=rfl
    have KI:=Lib.hid (HSS2.out (.slice sad s.len scap) nq Q sv5 ds5 _ _ w5 HSub.out hws5 hQ HWI2.out.2.1 (by have:=HF.out; omega))
    change Hid (Calls Tryz.prog 26 _ _ _) at KI
    unfold walkV at KI
    have HCnt:=Lib.hid (And.intro hcnt (And.intro hl5 hbc))
    have HNd:=Lib.hid (And.intro hQ (hlf.keep hk5))
    have HRes:=Lib.hid hres5
    have HKp5:=Lib.hid (hkp.trans (HKP2.out.trans hkp5))
    have HMore:=Lib.hid (And.intro (hk1.trans hk5) (And.intro htt hlen))
    have HAw:=Lib.hid (And.intro (hkp5.blk _ HQ4.out).2 (And.intro (hkp5.blk _ HQ5.out).2 hc5))
    clear hQ hk5 hl5 hws5 hkp5 hres5 hc5 hd5 hbc hkp hcnt hk1 htt hlen hlf hxk KC HStep
    go_wp2_with fail
    refine KI.out.mono ?_
    intro e3 w6 hp
    obtain ⟨p3,p4,rfl⟩:=hp.form
    have hp2 : (p4 ≠ 0 ∧ WlPost Wb w B p m sv v ds nb L (brC v * Pm.brs false t) R (.returned (.tuple #[.int .i64 p3, .int .i64 p4])) w6) ∨
      p4 = 0 ∧ ∃ (N6 : Pm.Nn) (sv6 : Value) (ds6 : List Bd.Dec) (xs6 : List Nat),WS Wb w6 B p m sv6 v ds6 nb L xs6 N6 ∧ Keep ds5 ds6 ∧ ds6.length ≤ ds5.length + brC v * Pm.brs true s ∧ Kp p m nb sv5 w5 sv6 w6 ∧ Pm.walk ns ls false r' A (fun s => Lf s && !Q s) N6 = R:=by
     have hr:=HRes.out
     revert hp hr
     generalize Pm.walk ns ls true s Q Q (Pm.put N' l A) = R'
     intro hp hr
     cases R' with
     | error y =>
      replace hr : Except.error y = R:=hr
      subst hr
      obtain ⟨h1,h2,h3⟩:=hp
      obtain ⟨e1,e2⟩:=two_inj h1
      exact .inl ⟨by rw [e2]; exact h2,⟨by rw [e1,e2],h2,h3⟩⟩
     | ok N1 =>
      obtain ⟨h1,sv3,ds3,xs3,h2,h3,h4,h5⟩:=hp
      obtain ⟨e1,e2⟩:=two_inj h1
      exact .inr ⟨e2,N1,sv3,ds3,xs3,h2,h3,h4,h5,hr⟩
    clear hp HRes
    rcases hp2 with ⟨h0,hp2⟩ | ⟨rfl,N6,sv6,ds6,xs6,hws6,hk6,hl6,hkp6,hres6⟩
    ·have HP:=Lib.hid hp2
     have h1 : (p4 == 0) = false:=by simpa using h0
     clear hp2 h0
     go_wp2_with fail
     go_ret2
     exact HP.out
    ·have hc6:=(hkp6.blk _ HAw.out.1).1.trans HAw.out.2.2
     have b0 : w6.cell? ⟨w.heap.size,0,none⟩ = some (.pointer (some ⟨p,0,none⟩)):=(Lib.cell_of_heap hc6 0).trans rfl
     have b1 : w6.cell? ⟨w.heap.size,1,none⟩ = some (.slice nad v nc):=(Lib.cell_of_heap hc6 1).trans rfl
     have b2 : w6.cell? ⟨w.heap.size,2,none⟩ = some (.slice (some ⟨lg,lo,none⟩) L lc):=(Lib.cell_of_heap hc6 2).trans rfl
     have b3 : w6.cell? ⟨w.heap.size,3,none⟩ = some (.slice (some ⟨nb,0,none⟩) L L):=(Lib.cell_of_heap hc6 3).trans rfl
     obtain ⟨hcnt,hl5,hbc⟩:=HCnt.out
     obtain ⟨hQ,hlf⟩:=HNd.out
     obtain ⟨hk1,htt,hlen⟩:=HMore.out
     have KO:=Lib.hid (without_any B p m v nb L y nq sv6 ds6 nad (some ⟨lg,lo,none⟩) v nc L lc Lf Q w6 hws6.ar (hlf.keep hk6) (hQ.keep hk6) (by have:=HF.out; omega))
     unfold walkV at KO
     have HEnd:=Lib.hid (fun (r7 : Nat) (ds7 : List Bd.Dec) (sv7 : Value) (w7 : World) (hN : Nd v ds7 r7 (fun s => Lf s && !Q s)) (hk7 : Keep ds6 ds7) (hl7 : ds7.length ≤ ds6.length + 510) (hA7 : Ar w7 B p m sv7 v ds7) (hF7 : Bdd.Fr p m sv6 w6 sv7 w7) =>
      show BrI Wb W1 B p m sv v ds nb (L) ns ls t A R (k + 1) r7 (fun s => Lf s && !Q s) (d.snoc l e s) r' sv7 ds7 xs6 N6 w7 from
       ⟨by rw [htt,app_snoc],by rw [len_snoc,hlen],hres6,hN,hws6.fr hA7 hk7 hF7,(hk1.trans hk6).trans hk7,by omega,(HKp5.out.trans hkp6).trans (Kp.of_fr nb hF7)⟩)
     clear hc6 hcnt hl5 hbc hQ hlf hk1 htt hlen hws6 hk6 hl6 hkp6 hres6
     go_wp2_with fail
     refine KO.out.mono ?_
     rintro e7 w7 ⟨r7,ds7,sv7,hN7,hk7,hl7,rfl,hA7,hF7⟩
     have HB:=Lib.hid (HEnd.out r7 ds7 sv7 w7 hN7 hk7 hl7 hA7 hF7)
     clear hN7 hk7 hl7 hA7 hF7
     go_wp2_with fail
     exact ⟨⟨k + 1,r7,_,_,_,_,_,_,_,rfl,by rw [Int.natCast_add]; rfl,hlt,HB.out⟩,by show n - ((k : Int) + 1).toNat < n - (k : Int).toNat; omega⟩
theorem subs_ind {P Q : T → Prop} (hP : ∀ t,Subs Q t → P t) (hQ : ∀ t,Subs P t → Q t) (t : T) : P t ∧ Q t ∧ Subs P t ∧ Subs Q t:=by
 induction t with
 | nil => exact ⟨hP _ trivial,hQ _ trivial,trivial,trivial⟩
 | cons l e s r ihs ihr =>
  have h1 : Subs P (cons l e s r):=⟨ihs.1,ihr.2.2.1⟩
  have h2 : Subs Q (cons l e s r):=⟨ihs.2.1,ihr.2.2.2⟩
  exact ⟨hP _ h2,hQ _ h1,h1,h2⟩
theorem walk_any (Wb : World) (nad lad : Option Addr) (nc lc B p m v nb L : Nat) (ns : List ByteArray) (ls : List Ln) (hW : WG Wb nad lad nc lc v L ns ls) (t : T) : ItC Wb nad lad nc lc B p m v nb L ns ls true t :=
 (subs_ind (P:=ItC Wb nad lad nc lc B p m v nb L ns ls true) (Q:=ItC Wb nad lad nc lc B p m v nb L ns ls false) (items_any Wb nad lad nc lc B p m v nb L ns ls hW) (branches_any Wb nad lad nc lc B p m v nb L ns ls hW) t).1
end
section
open Go.RowKit Go.Shelf
open Bdd (Ar Nd Keep TellsN)
theorem moved1_any (B q m v x : Nat) (sv : Value) (ds : List Bd.Dec) (P : Nat → Bool) (s b3 b11 : Nat) (w : World) (hA : Ar w B q m sv v ds) (hx : Nd v ds x P) (hs : s < 2 ^ v) (h3 : w.cell? ⟨b3,0,none⟩ = some (.pointer (some ⟨q,0,none⟩))) (h11 : w.cell? ⟨b11,0,none⟩ = some (.int .i64 (x : Int))) :
  Calls Tryz.prog 53 #[.int .i64 (s : Int), .pointer (some ⟨b3,0,none⟩), .pointer (some ⟨b11,0,none⟩)] w fun e w' => e = .returned (.bool (P s)) ∧ Below w.heap.size w w':=by
 have KH:=Lib.hid (Bdd.holdsN hA hx s hs)
 clear hA hx hs
 go_enter Tryz.func53,Tryz.ntmps53
 go_wp2_with fail
 refine KH.out.mono ?_
 rintro e w1 ⟨rfl,hb⟩
 have HB:=Lib.hid hb
 clear hb
 go_wp2_with fail
 go_ret
 exact ⟨rfl,HB.out⟩
theorem infoNode : (Tryz.prog.info? 39).map (fun i => (i.zero,i.size,i.bytes)) = some (some (.int .i64 0),1,8):=by kernel_rfl
def nodeL (ys : List Nat) : List Value:=ys.map fun n : Nat => Value.int .i64 (n : Int)
def Qd (ds : List Bd.Dec) (x : Nat) : Pm.Ss:=fun s => Bd.S ds x (Bd.bits s)
structure MI (w : World) (B p m : Nat) (sv : Value) (v : Nat) (ds : List Bd.Dec) (Bt q mt : Nat) (svt : Value) (dst : List Bd.Dec) (b3 mb nb L : Nat) (xs : List Nat) (base k n : Nat) (o sv' : Value) (ds' : List Bd.Dec) (es : List (Nat × Value)) (ys : List Nat) (W : World) : Prop where
 toA : Ar W B p m sv' v ds'
 kp : Keep ds ds'
 cnt : ds'.length ≤ ds.length + 510 * 2 ^ v * n
 fr : Bdd.Fr p m sv w sv' W
 tr : Ar W Bt q mt svt v dst
 aq : Away p m p sv' W q
 am : Away p m p sv' W mt
 asv : ∀ b,svt.ownBlock = some b → Away p m p sv' W b
 box : W.heap[b3]? = some (.cells #[.pointer (some ⟨q,0,none⟩)] 25 (0,0))
 a3 : Away p m p sv' W b3
 mp : MpAt intKey W mb es
 amb : Away p m p sv' W mb
 vals : ∀ (x : Nat) (u : Value),lk x es = some u → ∃ y : Nat,u = .int .i64 (y : Int) ∧ Nd v ds' y (Qd dst x)
 nd : W.heap[nb]? = some (.cells (nodeCells xs) 39 (0,0))
 an : Away p m p sv' W nb
 row : W.ownsRow base 39 1 o k (nodeL ys)
 arow : ∀ b,o.ownBlock = some b → Away p m p sv' W b
 ylen : ys.length = k
 says : ∀ i x y : Nat,xs[i]? = some x → ys[i]? = some y → Nd v ds' y (Qd dst x)
theorem row_lower {w : World} {base base' : Nat} {e : TypeId} {size : Nat} {v : Value} {n : Nat} {xs : List Value} (h : w.ownsRow base e size v n xs) (hb : base' ≤ base) : w.ownsRow base' e size v n xs :=
 ⟨h.1,h.2.imp id fun ⟨g,cap,cur,h1,h2,r⟩ => ⟨g,cap,cur,h1,Nat.le_trans hb h2,r⟩⟩
theorem heap_same {W W' : World} {b : Nat} {o : Obj} (hb : W'.heap[b]? = W.heap[b]?) (h : W.heap[b]? = some o) : W'.heap[b]? = some o:=hb.trans h
theorem ar_same {W W' : World} {B p m v : Nat} {sv : Value} {ds : List Bd.Dec} (h : Ar W B p m sv v ds) (hp : W'.heap[p]? = W.heap[p]?) (hm : W'.heap[m]? = W.heap[m]?) (hs : ∀ k,sv.ownBlock = some k → W'.heap[k]? = W.heap[k]?) : Ar W' B p m sv v ds :=
 ⟨hp.trans h.blk,Cnd.row_heap h.row hs,hm.trans h.map,h.hp,h.hm,h.v8,h.wf,h.few⟩
section
variable {w W W' : World} {B p m v Bt q mt b3 mb nb L base k n : Nat} {sv sv' sv2 svt o : Value} {ds ds' ds2 dst : List Bd.Dec} {xs ys : List Nat} {es : List (Nat × Value)}
theorem MI.step (h : MI w B p m sv v ds Bt q mt svt dst b3 mb nb L xs base k n o sv' ds' es ys W) (hA : Ar W' B p m sv2 v ds2) (hk : Keep ds' ds2) (F : Bdd.Fr p m sv' W sv2 W') {n2 : Nat} (hl : ds2.length ≤ ds.length + 510 * 2 ^ v * n2) : MI w B p m sv v ds Bt q mt svt dst b3 mb nb L xs base k n2 o sv2 ds2 es ys W':=by
 have K : ∀ b,Away p m p sv' W b → W'.heap[b]? = W.heap[b]? ∧ Away p m p sv2 W' b:=(Kp.of_fr p F).blk
 exact ⟨hA,h.kp.trans hk,hl,h.fr.trans F,ar_same h.tr (K _ h.aq).1 (K _ h.am).1 fun b e => (K _ (h.asv b e)).1,(K _ h.aq).2,(K _ h.am).2,fun b e => (K _ (h.asv b e)).2,heap_same (K _ h.a3).1 h.box,(K _ h.a3).2,
  h.mp.keep fun o ho => heap_same (K _ h.amb).1 ho,(K _ h.amb).2,fun x u e => let ⟨y,h1,h2⟩:=h.vals x u e; ⟨y,h1,h2.keep hk⟩,heap_same (K _ h.an).1 h.nd,(K _ h.an).2,Cnd.row_heap h.row fun b e => (K _ (h.arow b e)).1,fun b e => (K _ (h.arow b e)).2,h.ylen,fun i x y hx hy => (h.says i x y hx hy).keep hk⟩
theorem MI.below (h : MI w B p m sv v ds Bt q mt svt dst b3 mb nb L xs base k n o sv' ds' es ys W) (hb : Below W.heap.size W W') : MI w B p m sv v ds Bt q mt svt dst b3 mb nb L xs base k n o sv' ds' es ys W' :=
 h.step (h.toA.below hb) (Keep.refl _) (Bdd.Fr.of_below hb _ _ _) h.cnt
theorem away_grown {c : Option Nat} {b : Nat} (hg : W.grownBy W' c) (h : Away p m p sv' W b) : Away p m p sv' W' b:=⟨Nat.lt_of_lt_of_le h.lt hg.size,h.np,h.nm,h.nn,h.ns⟩
theorem MI.fr_grown (h : MI w B p m sv v ds Bt q mt svt dst b3 mb nb L xs base k n o sv' ds' es ys W) {c : Option Nat} (hg : W.grownBy W' c) (hc : ∀ b,c = some b → w.heap.size ≤ b ∧ Away p m p sv' W b) : Ar W' B p m sv' v ds' ∧ Bdd.Fr p m sv w sv' W':=by
 have hne : ∀ b,Away p m p sv' W b → some b = c → True:=fun _ _ _ => trivial
 refine ⟨ar_same h.toA (hg.block _ (Bdd.lt_of_get h.toA.blk) fun e => (hc _ e.symm).2.np rfl) (hg.block _ (Bdd.lt_of_get h.toA.map) fun e => (hc _ e.symm).2.nm rfl) fun b e => hg.block b (h.toA.row.lt b e).2 fun e2 => (hc _ e2.symm).2.ns e,?_⟩
 exact ⟨hg.os.trans h.fr.os,hg.tape.trans h.fr.tape,hg.output.trans h.fr.output,Nat.le_trans h.fr.size hg.size,fun b hb n1 n2 n3 => (hg.block b (Nat.lt_of_lt_of_le hb h.fr.size) fun e => by have:=(hc b e.symm).1; omega).trans (h.fr.blk b hb n1 n2 n3),h.fr.own⟩
theorem MI.learn (h : MI w B p m sv v ds Bt q mt svt dst b3 mb nb L xs base k n o sv' ds' es ys W) (hg : W.grownBy W' (some mb)) (hq : mb ≠ q) (hmt : mb ≠ mt) (hst : svt.ownBlock ≠ some mb) (h3 : mb ≠ b3) (hnb : mb ≠ nb) (ho : o.ownBlock ≠ some mb) (hwm : w.heap.size ≤ mb) {x y : Nat} (hm : MpAt intKey W' mb (es ++ [(x, .int .i64 (y : Int))])) (hy : Nd v ds' y (Qd dst x)) :
  MI w B p m sv v ds Bt q mt svt dst b3 mb nb L xs base k n o sv' ds' (es ++ [(x, .int .i64 (y : Int))]) ys W':=by
 have K : ∀ b,Away p m p sv' W b → mb ≠ b → W'.heap[b]? = W.heap[b]?:=fun b hb hne => hg.block b hb.lt fun e => hne (Option.some.inj e).symm
 obtain ⟨hA,hF⟩:=h.fr_grown hg fun b e => by obtain rfl:=Option.some.inj e; exact ⟨hwm,h.amb⟩
 refine ⟨hA,h.kp,h.cnt,hF,ar_same h.tr (K _ h.aq hq) (K _ h.am hmt) fun b e => K _ (h.asv b e) fun e2 => hst (e2 ▸ e),away_grown hg h.aq,away_grown hg h.am,fun b e => away_grown hg (h.asv b e),heap_same (K _ h.a3 h3) h.box,away_grown hg h.a3,
  hm,away_grown hg h.amb,fun x' u e => ?_,heap_same (K _ h.an hnb) h.nd,away_grown hg h.an,Cnd.row_heap h.row fun b e => K _ (h.arow b e) fun e2 => ho (e2 ▸ e),fun b e => away_grown hg (h.arow b e),h.ylen,h.says⟩
 rw [lk_snoc] at e
 cases hl : lk x' es with
 | some u' => rw [hl] at e; exact h.vals x' u (hl.trans e)
 | none =>
  rw [hl] at e
  dsimp only at e
  split at e
  ·rename_i hx
   subst hx
   injection e with e
   exact ⟨y,e.symm,hy⟩
  ·cases e
theorem MI.more (h : MI w B p m sv v ds Bt q mt svt dst b3 mb nb L xs base k n o sv' ds' es ys W) {W7 : World} {o' : Value} {x y : Nat} (hb : Below W.heap.size W W') (hg : W'.grownBy W7 o.ownBlock) (hrow : W7.ownsRow base 39 1 o' (k + 1) (nodeL ys ++ [.int .i64 (y : Int)])) (hbase : w.heap.size ≤ base) (hpb : p < base) (hmb : m < base)
  (hlow : ∀ b,(b = q ∨ b = mt ∨ svt.ownBlock = some b ∨ b = b3 ∨ b = mb ∨ b = nb) → b < base) (hown : ∀ b,o'.ownBlock = some b → o.ownBlock = some b ∨ b = W'.heap.size) (hx : xs[k]? = some x) (hy : Nd v ds' y (Qd dst x)) :
  MI w B p m sv v ds Bt q mt svt dst b3 mb nb L xs base (k + 1) n o' sv' ds' es (ys ++ [y]) W7:=by
 have h1:=h.below hb
 have hlt:=h1.row.lt
 have K : ∀ b,Away p m p sv' W' b → b < base → W7.heap[b]? = W'.heap[b]?:=fun b ha hl => hg.block b ha.lt fun e => by have:=(hlt b e.symm).1; omega
 obtain ⟨hA,hF⟩:=h1.fr_grown hg fun b e => ⟨by have:=(hlt b e).1; omega,h1.arow b e⟩
 have hsl : ∀ b,sv'.ownBlock = some b → b < W'.heap.size:=fun b e => (h1.toA.row.lt b e).2
 refine ⟨hA,h1.kp,h1.cnt,hF,ar_same h1.tr (K _ h1.aq (hlow _ (by simp))) (K _ h1.am (hlow _ (by simp))) fun b e => K _ (h1.asv b e) (hlow _ (by simp [e])),away_grown hg h1.aq,away_grown hg h1.am,fun b e => away_grown hg (h1.asv b e),heap_same (K _ h1.a3 (hlow _ (by simp))) h1.box,away_grown hg h1.a3,
  h1.mp.keep fun o ho => heap_same (K _ h1.amb (hlow _ (by simp))) ho,away_grown hg h1.amb,h1.vals,heap_same (K _ h1.an (hlow _ (by simp))) h1.nd,away_grown hg h1.an,?_,fun b e => ?_,by simp [h1.ylen],fun i x' y' hx' hy' => ?_⟩
 ·have : nodeL (ys ++ [y]) = nodeL ys ++ [.int .i64 (y : Int)]:=by simp [nodeL]
  rw [this]
  exact hrow
 ·rcases hown b e with h2 | rfl
  ·exact away_grown hg (h1.arow b h2)
  ·have h3:=hrow.lt _ e
   exact ⟨h3.2,by omega,by omega,by omega,fun e2 => by have:=hsl _ e2; omega⟩
 ·rcases Nat.lt_or_ge i ys.length with hi | hi
  ·rw [List.getElem?_append_left hi] at hy'
   exact h1.says i x' y' hx' hy'
  ·rw [List.getElem?_append_right hi] at hy'
   obtain ⟨hj, -⟩:=List.getElem?_eq_some_iff.1 hy'
   have hik : i = k:=by have:=h1.ylen; simp at hj; omega
   subst hik
   have h4 : y' = y:=by
    have e2 : i - ys.length = 0:=by have:=h1.ylen; omega
    rw [e2] at hy'
    injection hy' with hy'
    exact hy'.symm
   rw [hx] at hx'
   injection hx' with hx'
   subst hx' h4
   exact hy
end
theorem moved_any (B p m v : Nat) (sv : Value) (ds : List Bd.Dec) (Bt q mt : Nat) (svt : Value) (dst : List Bd.Dec) (nb L : Nat) (xs : List Nat) (w : World)
  (hA : Ar w B p m sv v ds) (hT : Ar w Bt q mt svt v dst) (aq : Away p m p sv w q) (am : Away p m p sv w mt) (hasv : ∀ b,svt.ownBlock = some b → Away p m p sv w b) (an : Away p m p sv w nb)
  (hnd : w.heap[nb]? = some (.cells (nodeCells xs) 39 (0,0))) (hL : xs.length = L) (hl6 : L ≤ 1000000) (hgood : ∀ i x : Nat,xs[i]? = some x → x < dst.length + 2) (hfew : ds.length + 510 * 2 ^ v * L ≤ 100000000) :
  Calls Tryz.prog 27 #[.pointer (some ⟨q,0,none⟩), .pointer (some ⟨p,0,none⟩), .slice (some ⟨nb,0,none⟩) L L] w fun e w' => ∃ o ds' sv' ys,e = .returned o ∧ Ar w' B p m sv' v ds' ∧ Keep ds ds' ∧ Bdd.Fr p m sv w sv' w' ∧ w'.ownsRow w.heap.size 39 1 o L (nodeL ys) ∧ ys.length = L ∧ (∀ i x y : Nat,xs[i]? = some x → ys[i]? = some y → Nd v ds' y (Qd dst x)) ∧ ds'.length ≤ ds.length + 510 * 2 ^ v * L:=by
 obtain ⟨i0,hi,hz0,hz1,hz2⟩:=info_parts infoNode
 have v8:=hA.v8
 obtain ⟨hw,hle⟩:=pow_w v8
 obtain ⟨P2,hP2⟩ : ∃ P2,P2 = 2 ^ v:=⟨_,rfl⟩
 have hp0 : 0 < P2:=by rw [hP2]; exact Nat.two_pow_pos v
 rw [← hP2] at hw hle
 have KV:=Lib.hid (fun W (h : Ar W B p m sv v ds) => Bdd.vars_any h)
 have hv1 : (0 : Int) ≤ v:=by omega
 have hv2 : (v : Int) ≤ 64:=by omega
 have hpl : p < w.heap.size:=Bdd.lt_of_get hA.blk
 have hml : m < w.heap.size:=Bdd.lt_of_get hA.map
 have hsl : ∀ k,sv.ownBlock = some k → k < w.heap.size:=fun k e => (hA.row.lt k e).2
 obtain ⟨W1,hW1⟩ : ∃ W1,W1 = w.alloc (.cells #[.pointer (some ⟨q,0,none⟩)] 25):=⟨_,rfl⟩
 have hB1 : Below w.heap.size w W1:=by rw [hW1]; exact (Below.refl _ w).alloc (Nat.le_refl _) _
 have hbx1 : W1.heap[w.heap.size]? = some (.cells #[.pointer (some ⟨q,0,none⟩)] 25 (0,0)):=by rw [hW1]; exact heap_alloc_new w _
 have hs1 : W1.heap.size = w.heap.size + 1:=by rw [hW1]; simp
 have KV1:=Lib.hid (Bdd.vars_any (hA.below hB1))
 go_enter Tryz.func27,Tryz.ntmps27
 have hmm:=@run_makeMap Tryz.prog
 have HW1:=Lib.hid hW1
 have HPP:=Lib.hid hP2
 clear hW1 hP2
 go_wp2_with fail
 rw [← HW1.out]
 refine KV1.out.mono ?_
 rintro e w1 ⟨rfl,rfl⟩
 go_wp2_with fail
 have e7 : ((P2 : Int) - 1) = ((P2 - 1 : Nat) : Int):=by omega
 rw [e7,hw]
 obtain ⟨W2,hW2⟩ : ∃ W2,W2 = W1.alloc (.map #[] 0):=⟨_,rfl⟩
 rw [← hW2]
 have hB2 : Below W1.heap.size W1 W2:=by rw [hW2]; exact (Below.refl _ W1).alloc (Nat.le_refl _) _
 have hB02 : Below w.heap.size w W2:=Below.then hB1 hB2
 have hs2 : W2.heap.size = w.heap.size + 2:=by rw [hW2]; simp [hs1]
 have K0 : ∀ b,Away p m p sv w b → W2.heap[b]? = w.heap[b]? ∧ Away p m p sv W2 b:=(Kp.of_below p m p sv hB02).blk
 have hnew : ∀ b,w.heap.size ≤ b → b < w.heap.size + 2 → Away p m p sv W2 b:=fun b h1 h2 => ⟨by omega,by omega,by omega,by omega,fun e => by have:=hsl _ e; omega⟩
 have hlow : ∀ b,(b = q ∨ b = mt ∨ svt.ownBlock = some b ∨ b = w.heap.size ∨ b = w.heap.size + 1 ∨ b = nb) → b < w.heap.size + 2:=by
  rintro b (rfl | rfl | h | rfl | rfl | rfl)
  ·have:=aq.lt; omega
  ·have:=am.lt; omega
  ·have:=(hasv b h).lt; omega
  ·omega
  ·omega
  ·have:=an.lt; omega
 have hnews : w.heap.size + 1 ≠ q ∧ w.heap.size + 1 ≠ mt ∧ svt.ownBlock ≠ some (w.heap.size + 1) ∧ w.heap.size + 1 ≠ w.heap.size ∧ w.heap.size + 1 ≠ nb :=
  ⟨by have:=aq.lt; omega,by have:=am.lt; omega,fun e => by have:=(hasv _ e).lt; omega,by omega,by have:=an.lt; omega⟩
 have hI0 : MI w B p m sv v ds Bt q mt svt dst w.heap.size (w.heap.size + 1) nb L xs (w.heap.size + 2) 0 0 (.slice none 0 0) sv ds [] [] W2 :=
  ⟨hA.below hB02,Keep.refl _,by omega,Bdd.Fr.of_below hB02 _ _ _,hT.below hB02,(K0 _ aq).2,(K0 _ am).2,fun b e => (K0 _ (hasv b e)).2,(hB2.block _ (by omega)).trans hbx1,hnew _ (by omega) (by omega),
   by rw [hW2,← hs1]; exact MpAt.new intKey W1,hnew _ (by omega) (by omega),fun x u e => (by cases e),heap_same (K0 _ an).1 hnd,(K0 _ an).2,World.ownsRow_nil _ _ _ _,fun b e => (by cases e),rfl,fun i x y _ hy => (by cases hy)⟩
 have HI0:=Lib.hid hI0
 have HLOW:=Lib.hid hlow
 have HNEW:=Lib.hid hnews
 have HXL:=Lib.hid hL
 have HGOOD:=Lib.hid hgood
 have HF:=Lib.hid hfew
 have HS2:=Lib.hid hs2
 have HPL:=Lib.hid (And.intro hpl hml)
 clear hA hT aq am hasv an hnd hL hgood hfew KV KV1 hpl hml hsl hB1 hbx1 hs1 HW1 hmm hB2 hB02 hs2 K0 hnew hlow hnews hI0 hW2 e7
 generalize hb3 : w.heap.size = b3 at *
 go_loopw [9,21] (fun o a wr => ∃ (k n : Nat) (sv' : Value) (ds' : List Bd.Dec) (es : List (Nat × Value)) (ys : List Nat),a = .int .i64 k ∧ k ≤ L ∧ n ≤ k ∧ MI w B p m sv v ds Bt q mt svt dst b3 (b3 + 1) nb L xs (b3 + 2) k n o sv' ds' es ys wr) (fun _ a _ => L - (intOf a).toNat)
 case atStart => exact ⟨0,0,_,_,_,_,rfl,Nat.zero_le _,Nat.le_refl _,HI0.out⟩
 case round =>
  obtain ⟨k,n,sv',ds',es,ys,rfl,hk,hnk,hI⟩:=hrel
  have HI:=Lib.hid hI
  clear hI
  by_cases hlt : k < L
  ·obtain ⟨x,hx⟩ : ∃ x,xs[k]? = some x:=⟨_,List.getElem?_eq_getElem (by rw [HXL.out]; exact hlt)⟩
   have z1 : (0 : Int) ≤ k:=by omega
   have z2 : (k : Int) < L:=by omega
   have hBV : Below wr.heap.size wr (wr.alloc (.cells #[.int .i64 (x : Int)] 39)):=(Below.refl _ wr).alloc (Nat.le_refl _) _
   have hIx:=HI.out.below hBV
   have d0 : wr.cell? ⟨nb,0 + k,none⟩ = some (.int .i64 (x : Int)):=by rw [Nat.zero_add]; exact (Lib.cell_of_heap HI.out.nd k).trans (nodeCells_get hx)
   have d0' : wr.cell? ⟨nb,k,none⟩ = some (.int .i64 (x : Int)):=(Lib.cell_of_heap HI.out.nd k).trans (nodeCells_get hx)
   have hb11 : (wr.alloc (.cells #[.int .i64 (x : Int)] 39)).heap[wr.heap.size]? = some (.cells #[.int .i64 (x : Int)] 39 (0,0)):=heap_alloc_new wr _
   have c11 : (wr.alloc (.cells #[.int .i64 (x : Int)] 39)).cell? ⟨wr.heap.size,0,none⟩ = some (.int .i64 (x : Int)):=(Lib.cell_of_heap hb11 0).trans rfl
   have hsw : b3 + 2 ≤ wr.heap.size:=HI.out.amb.lt
   have l2:=look_nn2 hIx.mp x
   have l1:=look_nn hIx.mp x
   clear hBV
   cases hl : lk x es with
   | some u =>
    obtain ⟨y,rfl,hy⟩:=hIx.vals x u hl
    rw [hl] at l1 l2
    replace l1 : (Instr.lookup 128 (.map (some (b3 + 1))) (.int .i64 (x : Int)) false).run Tryz.prog (wr.alloc (.cells #[.int .i64 (x : Int)] 39)) = .ok (.int .i64 (y : Int)) (wr.alloc (.cells #[.int .i64 (x : Int)] 39)):=l1
    replace l2 : (Instr.lookup 128 (.map (some (b3 + 1))) (.int .i64 (x : Int)) true).run Tryz.prog (wr.alloc (.cells #[.int .i64 (x : Int)] 39)) = .ok (.tuple #[.int .i64 (y : Int), .bool true]) (wr.alloc (.cells #[.int .i64 (x : Int)] 39)):=l2
    clear hb11 hl
    have HIx:=Lib.hid hIx
    have HXY:=Lib.hid (And.intro hx hy)
    have HROW:=Lib.hid (hIx.row.alloc (.cells #[.int .i64 (y : Int)] 39))
    have HBx:=Lib.hid (show Below (wr.alloc (.cells #[.int .i64 (x : Int)] 39)).heap.size (wr.alloc (.cells #[.int .i64 (x : Int)] 39)) ((wr.alloc (.cells #[.int .i64 (x : Int)] 39)).alloc (.cells #[.int .i64 (y : Int)] 39)) from (Below.refl _ _).alloc (Nat.le_refl _) _)
    clear hIx hx hy
    go_wp2_with (at_builtin; refine wpList_append_lies _ rfl _ _ 29 rfl (b3 + 2) 39 i0 _ 1 8 Tryz.underlying29 hi hz0 hz1 hz2 rfl (by decide) _ k (nodeL ys) rfl HROW.out ⟨wr.heap.size + 1,0,none⟩ 1 1 [.int .i64 (y : Int)] rfl rfl (World.news_of_block (cs:=#[.int .i64 (y : Int)]) (t:=39) (fr:=(0,0)) (heap_alloc2_new wr _ _)) (by simp [Value.oneCell']) (by decide) (by unfold maxLen; omega) (by omega) (by simp; omega) _ rfl ?_; intro gg cap' w7 hown7 hgrow hat hlt7)
    have HFin:=Lib.hid (HIx.out.more HBx.out hgrow hown7 (by omega) (by have:=HPL.out; omega) (by have:=HPL.out; omega) HLOW.out (fun b e => by injection e with e; subst e; exact hat) HXY.out.1 HXY.out.2)
    clear hown7 hgrow hat hlt7
    go_wp2_with fail
    go_roundw
    case rel => exact ⟨k + 1,n,_,_,_,_,by go_num,by omega,by omega,HFin.out⟩
    case measure => simp [intOf]; omega
   | none =>
    rw [hl] at l1 l2
    replace l2 : (Instr.lookup 128 (.map (some (b3 + 1))) (.int .i64 (x : Int)) true).run Tryz.prog (wr.alloc (.cells #[.int .i64 (x : Int)] 39)) = .ok (.tuple #[.int .i64 0, .bool false]) (wr.alloc (.cells #[.int .i64 (x : Int)] 39)):=l2
    clear l1
    obtain ⟨V,hV⟩ : ∃ V,V = (wr.alloc (.cells #[.int .i64 (x : Int)] 39)).drew:=⟨_,rfl⟩
    have hBd : Below (wr.alloc (.cells #[.int .i64 (x : Int)] 39)).heap.size (wr.alloc (.cells #[.int .i64 (x : Int)] 39)) V:=by rw [hV]; exact (Below.refl _ _).drew
    have hIV:=hIx.below hBd
    have hb11V : V.heap[wr.heap.size]? = some (.cells #[.int .i64 (x : Int)] 39 (0,0)):=by rw [hV]; exact hb11
    have a11 : Away p m p sv' V wr.heap.size:=⟨Bdd.lt_of_get hb11V,by have:=HPL.out; omega,by have:=HPL.out; omega,by have:=HPL.out; omega,fun e => by have:=(HI.out.toA.row.lt _ e).2; omega⟩
    have hxn : Nd v dst x (Qd dst x):=⟨HGOOD.out k x hx,fun _ _ => rfl⟩
    have hDoes : Does v 53 #[.pointer (some ⟨b3,0,none⟩), .pointer (some ⟨wr.heap.size,0,none⟩)] (Qd dst x) p m sv' V:=by
     refine ⟨fun args W => by kernel_rfl,fun s sv2 W' hs F => ?_⟩
     have K : ∀ b,Away p m p sv' V b → W'.heap[b]? = V.heap[b]?:=fun b hb => ((Kp.of_fr p F).blk b hb).1
     exact moved1_any Bt q mt v x svt dst (Qd dst x) s b3 wr.heap.size W' (ar_same hIV.tr (K _ hIV.aq) (K _ hIV.am) fun b e => K _ (hIV.asv b e)) hxn hs ((Lib.cell_of_heap (heap_same (K _ hIV.a3) hIV.box) 0).trans rfl) ((Lib.cell_of_heap (heap_same (K _ a11) hb11V) 0).trans rfl)
    have hcn : ds'.length + 510 * 2 ^ v ≤ ds.length + 510 * 2 ^ v * (n + 1):=by have:=hIV.cnt; rw [Nat.mul_add,Nat.mul_one]; omega
    have hcn2 : 510 * 2 ^ v * (n + 1) ≤ 510 * 2 ^ v * L:=Nat.mul_le_mul_left _ (by omega)
    have KD:=Lib.hid (decided_any v 53 #[.pointer (some ⟨b3,0,none⟩), .pointer (some ⟨wr.heap.size,0,none⟩)] (Qd dst x) B p m v (Nat.le_refl _) v8 v V sv' ds' (P2 - 1) 0 hIV.toA hDoes (by rw [← HPP.out]; omega) (Nat.le_refl _) (Nat.two_pow_pos v) (by have:=HF.out; omega))
    have hent : ∀ (args : Array Value) (W : World),(callFunc 53 args).run Tryz.prog W = .ok (.enter 53 args) W:=fun args W => by kernel_rfl
    have HStep:=Lib.hid (And.intro hIV (And.intro a11 (And.intro hb11V (And.intro hcn hx))))
    have HLk:=Lib.hid hl
    rw [hV] at KD HStep
    rw [show ((0 : Nat) : Int) = 0 from rfl] at KD
    clear hBd hIV hb11V a11 hxn hDoes hcn hcn2 hx hl hV hIx
    go_wp2_with fail
    generalize (wr.alloc (.cells #[.int .i64 (x : Int)] 39)) = V0 at KD HStep c11 ⊢
    have hall : ∀ (e2 : Ending) (w2 : World),DecPost V0.drew B p m sv' v ds' (fun s => Qd dst x (0 ||| ((P2 - 1) &&& s))) (510 * 2 ^ v) e2 w2 → ∃ y : Nat,e2 = .returned (.int .i64 (y : Int)) ∧ w2.cell? ⟨wr.heap.size,0,none⟩ = some (.int .i64 (x : Int)) ∧
      ∃ W3,(Instr.mapUpdate 128 (.map (some (b3 + 1))) (.int .i64 (x : Int)) (.int .i64 (y : Int))).run Tryz.prog w2 = .ok () W3 ∧ W3.cell? ⟨wr.heap.size,0,none⟩ = some (.int .i64 (x : Int)) ∧
       (Instr.lookup 128 (.map (some (b3 + 1))) (.int .i64 (x : Int)) false).run Tryz.prog W3 = .ok (.int .i64 (y : Int)) W3 ∧
       Hid (xs[k]? = some x ∧ ∃ (sv2 : Value) (ds2 : List Bd.Dec),Nd v ds2 y (Qd dst x) ∧ MI w B p m sv v ds Bt q mt svt dst b3 (b3 + 1) nb L xs (b3 + 2) k (n + 1) u9 sv2 ds2 (es ++ [(x, .int .i64 (y : Int))]) ys W3):=by
     rintro e2 w2 ⟨y,ds2,sv2,hN2,hk2,hl2,rfl,hA2,hF2⟩
     obtain ⟨hIV,a11,hb11V,hcn,hx⟩:=HStep.out
     have hI2:=hIV.step hA2 hk2 hF2 (n2:=n + 1) (by omega)
     have hy : Nd v ds2 y (Qd dst x):=hN2.congr fun s hs => by
      have : (0 : Nat) ||| ((P2 - 1) &&& s) = s:=by rw [Nat.zero_or,Nat.and_comm,HPP.out,Nat.and_two_pow_sub_one_eq_mod,Nat.mod_eq_of_lt hs]
      rw [this]
     obtain ⟨W3,r1,hm3,hg3⟩:=new_nn hI2.mp x HLk.out (.int .i64 (y : Int))
     obtain ⟨f1,f2,f3,f4,f5⟩:=HNEW.out
     have hIx:=hI2.learn hg3 f1 f2 f3 f4 f5 (fun e => by have:=(hI2.row.lt _ e).1; omega) (by omega) hm3 hy
     have hb2' : w2.heap[wr.heap.size]? = some (.cells #[.int .i64 (x : Int)] 39 (0,0)):=((Kp.of_fr p hF2).blk _ a11).1.trans hb11V
     have hb3' : W3.heap[wr.heap.size]? = some (.cells #[.int .i64 (x : Int)] 39 (0,0)):=(hg3.block _ (Nat.lt_of_lt_of_le (Bdd.lt_of_get hb11V) hF2.size) (fun e => by have:=Option.some.inj e; omega)).trans hb2'
     have l1:=look_nn hIx.mp x
     rw [lk_snoc,HLk.out] at l1
     dsimp only at l1
     rw [if_pos rfl] at l1
     exact ⟨y,rfl,(Lib.cell_of_heap hb2' 0).trans rfl,W3,r1,(Lib.cell_of_heap hb3' 0).trans rfl,l1,Lib.hid ⟨hx,sv2,ds2,hy,hIx⟩⟩
    have HAll:=Lib.hid hall
    have c11d : V0.drew.cell? ⟨wr.heap.size,0,none⟩ = some (.int .i64 (x : Int)):=c11
    clear hall
    go_region_held3 (fun w' => w'.cell? ⟨wr.heap.size,0,none⟩ = some (.int .i64 (x : Int))) (first | exact c11d | exact h5 | exact h6)
     (first | (go_at_call 52; (with_reducible refine KD.out.mono ?_); intro e2 w2 hp; obtain ⟨y,rfl,h5,W3,r1,h6,l1,HP⟩:=HAll.out _ _ hp))
    all_goals
     obtain ⟨hx,sv2,ds2,hy,hIx⟩:=HP.out
     clear HP HAll c11 c11d h5 r1 HStep KD
     have hsw3 : b3 + 2 ≤ W3.heap.size:=hIx.amb.lt
     have HIx:=Lib.hid hIx
     have HXY:=Lib.hid (And.intro hx hy)
     have HROW:=Lib.hid (hIx.row.alloc (.cells #[.int .i64 (y : Int)] 39))
     have HBx:=Lib.hid (show Below W3.heap.size W3 (W3.alloc (.cells #[.int .i64 (y : Int)] 39)) from (Below.refl _ _).alloc (Nat.le_refl _) _)
     clear hIx hx hy
     go_wp2_with (at_builtin; refine wpList_append_lies _ rfl _ _ 29 rfl (b3 + 2) 39 i0 _ 1 8 Tryz.underlying29 hi hz0 hz1 hz2 rfl (by decide) _ k (nodeL ys) rfl HROW.out ⟨W3.heap.size,0,none⟩ 1 1 [.int .i64 (y : Int)] rfl rfl (World.news_of_block (cs:=#[.int .i64 (y : Int)]) (t:=39) (fr:=(0,0)) (heap_alloc_new W3 _)) (by simp [Value.oneCell']) (by decide) (by unfold maxLen; omega) (by omega) (by simp; omega) _ rfl ?_; intro gg cap' w7 hown7 hgrow hat hlt7)
     have HFin:=Lib.hid (HIx.out.more HBx.out hgrow hown7 (by omega) (by have:=HPL.out; omega) (by have:=HPL.out; omega) HLOW.out (fun b e => by injection e with e; subst e; exact hat) HXY.out.1 HXY.out.2)
     clear hown7 hgrow hat hlt7
     go_wp2_with fail
     go_roundw
     case rel => exact ⟨k + 1,n + 1,_,_,_,_,by go_num,by omega,by omega,HFin.out⟩
     case measure => simp [intOf]; omega
  ·obtain rfl : k = L:=by omega
   go_wp2_with fail
   go_ret
   exact ⟨_,ds',sv',ys,rfl,HI.out.toA,HI.out.kp,HI.out.fr,row_lower HI.out.row (by omega),HI.out.ylen,HI.out.says,Nat.le_trans HI.out.cnt (Nat.add_le_add_left (Nat.mul_le_mul_left _ hnk) _)⟩
end
section
open Go.RowKit Go.Shelf
open Bdd (Ar Nd Keep TellsN)
open Cnd.Ct Cnd.Ct.T
theorem brs_le (ks : List Int) (t : T) : ∀ (b : Bool) (i j : Nat),G ks b i t j → Pm.brs b t ≤ j - i:=by
 induction t with
 | nil => intro b i j _; cases b <;> exact Nat.zero_le _
 | cons l e s r ihs ihr =>
  intro b i j h
  cases b with
  | true =>
   obtain ⟨rfl,h | h⟩:=h
   ·obtain ⟨rfl,rfl, -,h4⟩:=h
    have:=Gle ks _ _ _ _ h4
    have:=ihr _ _ _ h4
    show Pm.brs false nil + Pm.brs true r ≤ _
    have : Pm.brs false nil = 0:=rfl
    omega
   ·obtain ⟨-, -,h3, -,h5⟩:=h
    have h6:=Gle ks _ _ _ _ h5
    have h7:=Gle ks _ _ _ _ h3
    have:=ihs _ _ _ h3
    have:=ihr _ _ _ h5
    show Pm.brs false s + Pm.brs true r ≤ _
    omega
  | false =>
   obtain ⟨rfl,rfl,m,h1, -,h3⟩:=h
   have h4:=Gle ks _ _ _ _ h1
   have h5:=Gle ks _ _ _ _ h3
   have:=ihs _ _ _ h1
   have:=ihr _ _ _ h3
   show 1 + Pm.brs true s + Pm.brs false r ≤ _
   omega
theorem kinds_of {W : World} {v : Value} {ls : List Ln} (h : Lns W v ls) : Cnd.Lns W v (ls.map (·.kind)):=by
 obtain ⟨ad,cap,rfl,h1,h2,h3⟩:=h
 refine ⟨ad,cap,by rw [List.length_map],by rw [List.length_map]; exact h1,h2,fun hn => ?_⟩
 rw [List.length_map] at hn
 obtain ⟨g,o,rfl,hc⟩:=h3 0 _ (List.getElem?_eq_getElem hn)
 refine ⟨g,o,rfl,?_,fun i x hx => ?_⟩
 ·obtain ⟨v0,h0, -⟩:=hc
  exact lt_of_cell h0
 ·rw [List.getElem?_map] at hx
  obtain ⟨y,hy,rfl⟩:=Option.map_eq_some_iff.1 hx
  obtain ⟨g',o',e,v0,c0,c1,c2,c3,ks⟩:=h3 i y hy
  injection e with e
  injection e with e1 e2 _
  subst e1 e2
  obtain ⟨kad,kcap,rfl, -⟩:=ks
  exact ⟨c0,_,_,_,_,_,c1,c2,c3⟩
def LinesPost (w : World) (B p m : Nat) (sv : Value) (v : Nat) (ds : List Bd.Dec) (L : Nat) (R : Except (Nat × Int) Pm.Nn) (e : Ending) (w' : World) : Prop :=
 match R with
 | .error x => e = .returned (.tuple #[.slice none 0 0, .int .i64 (x.1 : Int), .int .i64 x.2]) ∧ x.2 ≠ 0 ∧ Below w.heap.size w w'
 | .ok N => ∃ o ds' sv' ys,e = .returned (.tuple #[o, .int .i64 0, .int .i64 0]) ∧ Ar w' B p m sv' v ds' ∧ Keep ds ds' ∧ Bdd.Fr p m sv w sv' w' ∧ w'.ownsRow w.heap.size 39 1 o L (nodeL ys) ∧ ys.length = L ∧ (∀ i y : Nat,ys[i]? = some y → Nd v ds' y (N i)) ∧ ds'.length ≤ ds.length + 510 * 2 ^ v * L
theorem make_nodes (L : Nat) (hL : L ≤ 1000000) (w : World) : (Instr.makeSlice 29 (.int .i64 (L : Int)) (.int .i64 (L : Int))).run Tryz.prog w = .ok (.slice (some ⟨w.heap.size,0,none⟩) L L) (w.alloc (.cells (nodeCells (List.replicate L 0)) 39)):=by
 obtain ⟨i0,hi,hz0,hz1,hz2⟩:=info_parts infoNode
 have:=run_make (P:=Tryz.prog) w 29 39 i0 (.int .i64 0) Tryz.underlying29 hi hz0 .i64 .i64 L L (by omega) (Int.le_refl _) (by rw [hz2]; omega) (by omega)
 rw [hz1,Nat.mul_one,Int.toNat_natCast] at this
 rw [this]
 have h : madeCells (Value.int .i64 0).cells L = nodeCells (List.replicate L 0):=by
  apply Array.toList_inj.1
  show (madeCells #[.int .i64 0] L).toList = _
  rw [toList_madeCells_one]
  simp [nodeCells]
 rw [h]
theorem ws_new {Wb W : World} {B p m v nb L : Nat} {sv : Value} (hA : Ar W B p m sv v []) (hB : Wb.heap.size ≤ B) (hb : Below Wb.heap.size Wb W) (hnd : W.heap[nb]? = some (.cells (nodeCells (List.replicate L 0)) 39 (0,0))) (h1 : Wb.heap.size ≤ nb) (h2 : nb ≠ p) (h3 : nb ≠ m) (h4 : sv.ownBlock ≠ some nb) : WS Wb W B p m sv v [] nb L (List.replicate L 0) Pm.zero :=
 ⟨hA,hB,hb,hnd,h1,h2,h3,h4,List.length_replicate,fun i x hx => by
  have : x = 0:=List.eq_of_mem_replicate (List.mem_of_getElem? hx)
  subst this
  exact Nd.never v []⟩
theorem plines_any (B p m v : Nat) (sv : Value) (ds : List Bd.Dec) (nv lv : Value) (ns : List ByteArray) (ls : List Ln) (w : World) (hA : Ar w B p m sv v ds) (hn : Sts w nv ns) (hl : Lns w lv ls) (hG : Gv w) (hN : NmL ns) (hv : v = ns.length)
  (hok : ∀ x ∈ ls,Tb x.toks ∧ x.toks.length ≤ 1000) (hlen : ls.length ≤ 100000) (hf1 : brC v * ls.length ≤ 100000000) (hf2 : ds.length + 510 * 2 ^ v * ls.length ≤ 100000000) :
  Calls Tryz.prog 11 #[.pointer (some ⟨p,0,none⟩),nv,lv] w (LinesPost w B p m sv v ds ls.length (Pm.lines ns ls)):=by
 obtain ⟨nad,nc,rfl,nc1,nc2, -⟩:=id hn
 obtain ⟨lad,lc,rfl,lc1,lc2, -⟩:=id hl
 obtain ⟨R,hR⟩ : ∃ R,R = Pm.lines ns ls:=⟨_,rfl⟩
 rw [← hR]
 unfold Pm.lines at hR
 have v8:=hA.v8
 have KV:=Lib.hid (Bdd.vars_any hA)
 have KP:=Lib.hid (Cnd.parse_any _ _ w (kinds_of hl) (by rw [List.length_map]; omega))
 obtain ⟨ks,hks⟩ : ∃ ks,ks = ls.map (·.kind):=⟨_,rfl⟩
 rw [← hks] at hR KP
 obtain ⟨L,hL⟩ : ∃ L,L = ls.length:=⟨_,rfl⟩
 rw [← hv] at hn nc1 ⊢
 rw [← hL] at hl lc1 hlen hf1 hf2 ⊢
 rw [← hL] at KP
 unfold maxLen at nc2 lc2
 have HN:=Lib.hid hn
 have HL:=Lib.hid hl
 have HA:=Lib.hid hA
 have HG:=Lib.hid hG
 have HNM:=Lib.hid hN
 have HV:=Lib.hid hv
 have HOK:=Lib.hid hok
 have HF1:=Lib.hid hf1
 have HF2:=Lib.hid hf2
 have HR:=Lib.hid hR
 have HKS:=Lib.hid hks
 have HLL:=Lib.hid hL
 clear hn hl hA hG hN hv hok hf1 hf2 hR hks hL
 go_enter Tryz.func11,Tryz.ntmps11
 go_wp2_with fail
 refine KV.out.mono ?_
 rintro e w1 ⟨rfl,rfl⟩
 go_wp2_with fail
 refine KP.out.mono ?_
 rintro e w2 ⟨u,rfl,htr,hb2⟩
 have HB2:=Lib.hid hb2
 have HTr:=Lib.hid htr
 obtain ⟨t,ht⟩ : ∃ t,t = (parse ks).1:=⟨_,rfl⟩
 obtain ⟨ln,hln⟩ : ∃ ln,ln = (parse ks).2.1:=⟨_,rfl⟩
 obtain ⟨er,her⟩ : ∃ er,er = (parse ks).2.2:=⟨_,rfl⟩
 have HTL:=Lib.hid (And.intro ht (And.intro hln her))
 rw [← ht] at HR HTr
 rw [← hln,← her] at HR ⊢
 clear hb2 htr ht hln her KP KV
 by_cases h0 : er = 0
 ·subst h0
  have KN:=Lib.hid (Bdd.new_yes v v8 w2)
  go_wp2_with fail
  refine KN.out.mono ?_
  rintro e w3 ⟨rfl,hA3,hb3⟩
  have HA3:=Lib.hid hA3
  have HB3:=Lib.hid hb3
  have hmk:=make_nodes L (by omega) w3
  have hp3:=Bdd.lt_of_get hA3.blk
  obtain ⟨W4,hW4⟩ : ∃ W4,W4 = w3.alloc (.cells (nodeCells (List.replicate L 0)) 39):=⟨_,rfl⟩
  obtain ⟨W5,hW5⟩ : ∃ W5,W5 = W4.alloc (.cells #[.pointer (some ⟨w2.heap.size + 1,0,none⟩), .slice nad v nc, .slice lad L lc, .slice (some ⟨w3.heap.size,0,none⟩) L L] 76):=⟨_,rfl⟩
  have hB4 : Below w3.heap.size w3 W4:=by rw [hW4]; exact (Below.refl _ w3).alloc (Nat.le_refl _) _
  have hs4 : W4.heap.size = w3.heap.size + 1:=by rw [hW4]; simp
  have hB5 : Below W4.heap.size W4 W5:=by rw [hW5]; exact (Below.refl _ W4).alloc (Nat.le_refl _) _
  have hn4 : W4.heap[w3.heap.size]? = some (.cells (nodeCells (List.replicate L 0)) 39 (0,0)):=by rw [hW4]; exact heap_alloc_new w3 _
  have hn5 : W5.heap[w3.heap.size]? = some (.cells (nodeCells (List.replicate L 0)) 39 (0,0)):=(hB5.block _ (by omega)).trans hn4
  have hx5 : W5.heap[w3.heap.size + 1]? = some (.cells #[.pointer (some ⟨w2.heap.size + 1,0,none⟩), .slice nad v nc, .slice lad L lc, .slice (some ⟨w3.heap.size,0,none⟩) L L] 76 (0,0)):=by rw [hW5,← hs4]; exact heap_alloc_new W4 _
  have hB35 : Below w3.heap.size w3 W5:=Below.then hB4 hB5
  have hB25 : Below w2.heap.size w2 W5:=Below.then hb3 hB35
  have hs5 : W5.heap.size = w3.heap.size + 2:=by rw [hW5]; simp [hs4]
  have hws : WS w2 W5 w2.heap.size (w2.heap.size + 1) w2.heap.size (.slice none 0 0) v [] w3.heap.size L (List.replicate L 0) Pm.zero :=
   ws_new (hA3.below hB35) (Nat.le_refl _) hB25 hn5 hb3.size (by omega) (by omega) (fun e => by cases e)
  have hWG : WG w2 nad lad nc lc v L ns ls:=⟨HN.out.below HB2.out,HL.out.below HB2.out,HG.out.later HB2.out,HNM.out,HV.out,HLL.out,HOK.out,by omega⟩
  obtain ⟨t',ht1,ht2⟩:=parse_ok (ks:=ks) (by rw [← HTL.out.2.2])
  have htt : t = t':=by rw [HTL.out.1,ht2]
  subst htt
  have hG1:=Cnd.Ct.Gparse ht1
  have hklen : ks.length = L:=by rw [HKS.out,List.length_map,← HLL.out]
  rw [hklen] at hG1
  have hwi:=Pm.within_of ks t true 0 L hG1
  have hbrs:=brs_le ks t true 0 L hG1
  have hcost : brC v * Pm.brs true t ≤ brC v * L:=Nat.mul_le_mul_left _ (by omega)
  have KI:=Lib.hid (walk_any w2 nad lad nc lc w2.heap.size (w2.heap.size + 1) w2.heap.size v w3.heap.size L ns ls hWG t u 1 Pm.all (.slice none 0 0) [] (List.replicate L 0) Pm.zero W5 HTr.out hws (Nd.always v []) hwi (by have:=HF1.out; simp only [List.length_nil]; omega))
  change Hid (Calls Tryz.prog 26 _ _ _) at KI
  unfold walkV at KI
  rw [show ((1 : Nat) : Int) = 1 from rfl] at KI
  have c0 : W5.cell? ⟨w3.heap.size + 1,0,none⟩ = some (.pointer (some ⟨w2.heap.size + 1,0,none⟩)):=(Lib.cell_of_heap hx5 0).trans rfl
  have c1 : W5.cell? ⟨w3.heap.size + 1,1,none⟩ = some (.slice nad v nc):=(Lib.cell_of_heap hx5 1).trans rfl
  have c2 : W5.cell? ⟨w3.heap.size + 1,2,none⟩ = some (.slice lad L lc):=(Lib.cell_of_heap hx5 2).trans rfl
  have c3 : W5.cell? ⟨w3.heap.size + 1,3,none⟩ = some (.slice (some ⟨w3.heap.size,0,none⟩) L L):=(Lib.cell_of_heap hx5 3).trans rfl
  have haw : Away (w2.heap.size + 1) w2.heap.size w3.heap.size (.slice none 0 0) W5 (w3.heap.size + 1):=⟨by omega,by have:=hb3.size; omega,by have:=hb3.size; omega,by omega,fun e => by cases e⟩
  have HAw:=Lib.hid (And.intro haw hx5)
  have HWS5:=Lib.hid hB25
  have HW5:=Lib.hid (And.intro hW5 hW4)
  have HS3:=Lib.hid hb3.size
  clear hA3 hb3 KN hB4 hs4 hB5 hn4 hn5 hx5 hB35 hB25 hs5 hws hWG ht1 ht2 hG1 hklen hwi hbrs hcost haw hW5 hW4 hp3
  go_wp2_with fail
  rw [← HW5.out.2,← HW5.out.1]
  refine KI.out.mono ?_
  intro e w6 hp
  obtain ⟨p1,p2,rfl⟩:=hp.form
  have hp2 : (p2 ≠ 0 ∧ LinesPost w B p m sv v ds L R (.returned (.tuple #[.slice none 0 0, .int .i64 p1, .int .i64 p2])) w6) ∨
    (p2 = 0 ∧ p1 = 0 ∧ ∃ (N : Pm.Nn) (sv6 : Value) (dst : List Bd.Dec) (xs : List Nat),R = .ok N ∧ WS w2 w6 w2.heap.size (w2.heap.size + 1) w2.heap.size sv6 v dst w3.heap.size L xs N ∧ Kp (w2.heap.size + 1) w2.heap.size w3.heap.size (.slice none 0 0) W5 sv6 w6):=by
   have hr:=HR.out
   rw [if_pos trivial] at hr
   revert hp hr
   generalize Pm.walk ns ls true t Pm.all Pm.all Pm.zero = R'
   intro hp hr
   subst hr
   cases R with
   | error y =>
    obtain ⟨h1,h2,h3⟩:=hp
    obtain ⟨e1,e2⟩:=two_inj h1
    exact .inl ⟨by rw [e2]; exact h2,⟨by rw [e1,e2],h2,Below.then HB2.out h3⟩⟩
   | ok N =>
    obtain ⟨h1,sv6,dst,xs,h2, -, -,h3⟩:=hp
    obtain ⟨e1,e2⟩:=two_inj h1
    exact .inr ⟨e2,e1,N,sv6,dst,xs,rfl,h2,h3⟩
  clear hp KI
  rcases hp2 with ⟨h0,hp2⟩ | ⟨rfl,rfl,N,sv6,dst,xs,rfl,hws6,hkp6⟩
  ·have HP:=Lib.hid hp2
   have e1 : (p2 == 0) = false:=by simpa using h0
   clear HR h0 hp2
   go_wp2_with fail
   exact bodyPost_ret (v:=.tuple #[.slice none 0 0, .int .i64 p1, .int .i64 p2]) (by simp [results,Tryz.results11,go_sem]) rfl HP.out
  ·have hx6:=(hkp6.blk _ HAw.out.1).1.trans HAw.out.2
   have g3 : w6.cell? ⟨w3.heap.size + 1,3,none⟩ = some (.slice (some ⟨w3.heap.size,0,none⟩) L L):=(Lib.cell_of_heap hx6 3).trans rfl
   have hA:=HA.out
   have hpl : p < w.heap.size:=Bdd.lt_of_get hA.blk
   have hml : m < w.heap.size:=Bdd.lt_of_get hA.map
   have hsl : ∀ k,sv.ownBlock = some k → k < w.heap.size:=fun k e => (hA.row.lt k e).2
   have hb6 : Below w.heap.size w w6:=Below.then HB2.out hws6.bl
   have hsz:=HB2.out.size
   have hs3:=HS3.out
   have hA6:=hA.below hb6
   have away : ∀ b,w2.heap.size ≤ b → b < w6.heap.size → Away p m p sv w6 b:=fun b h1 h2 => ⟨h2,by omega,by omega,by omega,fun e => by have:=hsl _ e; omega⟩
   have KM:=Lib.hid (moved_any B p m v sv ds w2.heap.size (w2.heap.size + 1) w2.heap.size sv6 dst w3.heap.size L xs w6 hA6 hws6.ar (away _ (by omega) (Bdd.lt_of_get hws6.ar.blk)) (away _ (by omega) (Bdd.lt_of_get hws6.ar.map)) (fun b e => away b (hws6.ar.row.lt b e).1 (hws6.ar.row.lt b e).2)
    (away _ hs3 (Bdd.lt_of_get hws6.nd)) hws6.nd hws6.len (by omega) (fun i x hx => (hws6.says i x hx).lt) HF2.out)
   have HEnd:=Lib.hid (And.intro hb6 (And.intro hws6.says hws6.len))
   clear hx6 hA hpl hml hsl hb6 hsz hs3 hA6 away hws6 hkp6 c0 c1 c2 c3
   go_wp2_with fail
   refine KM.out.mono ?_
   rintro e w7 ⟨o,ds',sv',ys,rfl,hA7,hk7,hF7,hrow,hyl,hsay,hcnt⟩
   have hfin : LinesPost w B p m sv v ds L (.ok N) (.returned (.tuple #[o, .int .i64 0, .int .i64 0])) w7:=by
    obtain ⟨hb6,h1,h2⟩:=HEnd.out
    refine ⟨o,ds',sv',ys,rfl,hA7,hk7,(Bdd.Fr.of_below hb6 _ _ _).trans hF7,row_lower hrow hb6.size,hyl,fun i y hy => ?_,hcnt⟩
    obtain ⟨hi, -⟩:=List.getElem?_eq_some_iff.1 hy
    have hx : xs[i]? = some xs[i]:=List.getElem?_eq_getElem (by omega)
    exact (hsay i _ y hx hy).congr (h1 i _ hx).says
   have HFin:=Lib.hid hfin
   clear hfin hA7 hk7 hF7 hrow hyl hsay hcnt
   go_wp2_with fail
   exact bodyPost_ret (v:=.tuple #[o, .int .i64 0, .int .i64 0]) (by simp [results,Tryz.results11,go_sem]) rfl HFin.out
 ·have hr:=HR.out
  rw [if_neg h0] at hr
  subst hr
  have e1 : ((er : Int) == 0) = false:=by simpa using h0
  have HP:=Lib.hid (show LinesPost w B p m sv v ds L (.error (ln,(er : Int))) (.returned (.tuple #[.slice none 0 0, .int .i64 (ln : Int), .int .i64 (er : Int)])) w2 from ⟨rfl,by omega,HB2.out⟩)
  clear HR h0
  go_wp2_with fail
  exact bodyPost_ret (v:=.tuple #[.slice none 0 0, .int .i64 (ln : Int), .int .i64 (er : Int)]) (by simp [results,Tryz.results11,go_sem]) rfl HP.out
end
section
open Go.RowKit Go.Shelf
open Bdd (Ar Nd Keep TellsN)
def setsOf (P : Pm.Ss) (n : Nat) : List Nat:=(List.range n).filter P
theorem setsOf_yes {P : Pm.Ss} {s : Nat} (h : P s = true) : setsOf P (s + 1) = setsOf P s ++ [s]:=by simp [setsOf,List.range_succ,h]
theorem setsOf_no {P : Pm.Ss} {s : Nat} (h : P s = false) : setsOf P (s + 1) = setsOf P s:=by simp [setsOf,List.range_succ,h]
theorem setsOf_len (P : Pm.Ss) (n : Nat) : (setsOf P n).length ≤ n:=by
 have:=List.length_filter_le P (List.range n)
 rwa [List.length_range] at this
structure WI (w : World) (B p m : Nat) (sv : Value) (v : Nat) (ds : List Bd.Dec) (b5 base : Nat) (l : List Nat) (o : Value) (W : World) : Prop where
 box : W.heap[b5]? = some (.cells #[o] 37 (0,0))
 row : W.ownsRow base 3 1 o l.length (Cnd.nums l)
 ar : Ar W B p m sv v ds
 bl : Below w.heap.size w W
 own : ∀ b,o.ownBlock = some b → b ≠ p ∧ b ≠ m ∧ sv.ownBlock ≠ some b
theorem WI.below {w W W' : World} {B p m v b5 base : Nat} {sv o : Value} {ds : List Bd.Dec} {l : List Nat} (h : WI w B p m sv v ds b5 base l o W) (hb : Below W.heap.size W W') : WI w B p m sv v ds b5 base l o W' :=
 ⟨(hb.block b5 (Bdd.lt_of_get h.box)).trans h.box,row_below h.row hb,h.ar.below hb,Below.then h.bl hb,h.own⟩
theorem where1_any (w : World) (B p m v b5 base s : Nat) (sv o : Value) (ds : List Bd.Dec) (l : List Nat) (W : World) (h : WI w B p m sv v ds b5 base l o W) (hb5 : w.heap.size ≤ b5) (hbb : b5 < base) (hwb : base ≤ W.heap.size) (hnp : p < w.heap.size) (hnm : m < w.heap.size) (hsv : ∀ b,sv.ownBlock = some b → b < w.heap.size) (hll : l.length ≤ 256) :
  Calls Tryz.prog 33 #[.int .i64 (s : Int), .pointer (some ⟨b5,0,none⟩)] W fun e w' => e = .returned (.bool true) ∧ base ≤ w'.heap.size ∧ ∃ o',WI w B p m sv v ds b5 base (l ++ [s]) o' w':=by
 obtain ⟨i0,hi,hz0,hz1,hz2⟩:=Cnd.info_parts Cnd.info3
 have c5 : W.cell? ⟨b5,0,none⟩ = some o:=(Lib.cell_of_heap h.box 0).trans rfl
 obtain ⟨k,hk⟩ : ∃ k,k = l.length:=⟨_,rfl⟩
 have hrow:=h.row.alloc (.cells #[.int .i64 (s : Int)] 3)
 have hB1 : Below W.heap.size W (W.alloc (.cells #[.int .i64 (s : Int)] 3)):=(Below.refl _ W).alloc (Nat.le_refl _) _
 rw [← hk] at hrow hll
 have HW:=Lib.hid (h.below hB1)
 have HROW:=Lib.hid hrow
 have HK:=Lib.hid hk
 have hlt:=h.row.lt
 have HLT:=Lib.hid hlt
 have HB:=Lib.hid hB1
 clear h hrow hk hlt hB1
 have hpost : ∀ (gg cap' : Nat) (w7 : World),w7.ownsRow base 3 1 (.slice (some ⟨gg,0,none⟩) (k + 1) cap') (k + 1) (Cnd.nums l ++ [.int .i64 (s : Int)]) → (W.alloc (.cells #[.int .i64 (s : Int)] 3)).grownBy w7 o.ownBlock → w7.cell? ⟨b5,0,none⟩ = some o ∧ w7.frozen? ⟨b5,0,none⟩ = false ∧
   Hid (base ≤ (w7.setCell ⟨b5,0,none⟩ (.slice (some ⟨gg,0,none⟩) (k + 1) cap')).heap.size ∧ ∃ o',WI w B p m sv v ds b5 base (l ++ [s]) o' (w7.setCell ⟨b5,0,none⟩ (.slice (some ⟨gg,0,none⟩) (k + 1) cap'))):=by
  intro gg cap' w7 hown7 hgrow
  have h:=HW.out
  have K : ∀ b,b < (W.alloc (.cells #[.int .i64 (s : Int)] 3)).heap.size → o.ownBlock ≠ some b → w7.heap[b]? = (W.alloc (.cells #[.int .i64 (s : Int)] 3)).heap[b]?:=fun b hb hne => hgrow.block b hb fun e => hne e.symm
  have hblt:=Bdd.lt_of_get h.box
  have hb7 : w7.heap[b5]? = some (.cells #[o] 37 (0,0)):=(K b5 hblt fun e => by have:=(HLT.out _ e).1; omega).trans h.box
  have c7 : w7.cell? ⟨b5,0,none⟩ = some o:=(Lib.cell_of_heap hb7 0).trans rfl
  have f7 : w7.frozen? ⟨b5,0,none⟩ = false:=Lib.frozen_of_heap hb7 0
  have hgb:=(hown7.lt gg rfl).1
  refine ⟨c7,f7,Lib.hid ?_⟩
  have hk2 : (l ++ [s]).length = k + 1:=by rw [List.length_append,← HK.out]; rfl
  have hs : ∀ b,b ≠ b5 → (w7.setCell ⟨b5,0,none⟩ (.slice (some ⟨gg,0,none⟩) (k + 1) cap')).heap[b]? = w7.heap[b]?:=fun b hb => heap_setCell_other w7 ⟨b5,0,none⟩ b _ hb
  have hal:=h.ar.row.lt
  refine ⟨by have:=hgrow.size; have:=HB.out.size; simp only [World.size_setCell]; omega, .slice (some ⟨gg,0,none⟩) (k + 1) cap',?_,?_,?_,?_,?_⟩
  ·have:=hb7
   simp [World.setCell,Array.getElem?_modify,this]
  ·rw [hk2]
   have e : Cnd.nums (l ++ [s]) = Cnd.nums l ++ [.int .i64 (s : Int)]:=by simp [Cnd.nums]
   rw [e]
   exact Cnd.row_heap hown7 fun b e => by obtain rfl : gg = b:=Option.some.inj e; exact hs _ (by omega)
  ·refine ar_same h.ar ?_ ?_ fun b e => ?_
   ·exact (hs p (by omega)).trans (K p (Bdd.lt_of_get h.ar.blk) fun e => (h.own p e).1 rfl)
   ·exact (hs m (by omega)).trans (K m (Bdd.lt_of_get h.ar.map) fun e => (h.own m e).2.1 rfl)
   ·exact (hs b (by have:=hsv b e; omega)).trans (K b (hal b e).2 fun e2 => (h.own b e2).2.2 e)
  ·exact (h.bl.grown hgrow h.bl.size fun b e => by have:=(HLT.out b e).1; omega).setCell (p:=⟨b5,0,none⟩) hb5 _
  ·intro b e
   obtain rfl : gg = b:=Option.some.inj e
   exact ⟨by omega,by omega,fun e => by have:=hsv _ e; omega⟩
 have HPost:=Lib.hid hpost
 clear hpost
 go_enter Tryz.func33,Tryz.ntmps33
 go_wp2_with (at_builtin; refine wpList_append_lies _ rfl _ _ 37 rfl base 3 i0 _ 1 8 Tryz.underlying37 hi hz0 hz1 hz2 rfl (by decide) _ k (Cnd.nums l) rfl HROW.out ⟨W.heap.size,0,none⟩ 1 1 [.int .i64 (s : Int)] rfl rfl (World.news_of_block (cs:=#[.int .i64 (s : Int)]) (t:=3) (fr:=(0,0)) (heap_alloc_new W _)) (by simp [Value.oneCell']) (by decide) (by unfold maxLen; omega) (by omega) (by simp; omega) _ rfl ?_; intro gg cap' w7 hown7 hgrow hat hlt7; obtain ⟨c7,f7,HF⟩:=HPost.out gg cap' w7 hown7 hgrow; clear hown7 hgrow hat hlt7)
 go_ret
 exact ⟨rfl,HF.out⟩
theorem where_any (B p m v x : Nat) (sv : Value) (ds : List Bd.Dec) (P : Pm.Ss) (w : World) (hA : Ar w B p m sv v ds) (hx : Nd v ds x P) :
  Calls Tryz.prog 14 #[.pointer (some ⟨p,0,none⟩), .int .i64 (x : Int)] w fun e w' => ∃ o,e = .returned o ∧ w'.ownsRow w.heap.size 3 1 o (setsOf P (2 ^ v)).length (Cnd.nums (setsOf P (2 ^ v))) ∧ Below w.heap.size w w':=by
 have hpl : p < w.heap.size:=Bdd.lt_of_get hA.blk
 have hml : m < w.heap.size:=Bdd.lt_of_get hA.map
 have hsl : ∀ k,sv.ownBlock = some k → k < w.heap.size:=fun k e => (hA.row.lt k e).2
 obtain ⟨W,hW⟩ : ∃ W,W = w.alloc (.cells #[.slice none 0 0] 37):=⟨_,rfl⟩
 have hB : Below w.heap.size w W:=by rw [hW]; exact (Below.refl _ w).alloc (Nat.le_refl _) _
 have hbx : W.heap[w.heap.size]? = some (.cells #[.slice none 0 0] 37 (0,0)):=by rw [hW]; exact heap_alloc_new w _
 have hsz : W.heap.size = w.heap.size + 1:=by rw [hW]; simp
 have h0 : WI w B p m sv v ds w.heap.size (w.heap.size + 1) [] (.slice none 0 0) W:=⟨hbx,World.ownsRow_nil _ _ _ _,hA.below hB,hB,fun b e => by cases e⟩
 have h256:=(pow_w hA.v8).2
 have KE:=Lib.hid (each_any 33 #[.pointer (some ⟨w.heap.size,0,none⟩)] P (fun s W' => w.heap.size + 1 ≤ W'.heap.size ∧ s ≤ 2 ^ v ∧ ∃ o,WI w B p m sv v ds w.heap.size (w.heap.size + 1) (setsOf P s) o W') (fun _ => False) B p m v x sv ds W (fun args W => by kernel_rfl) hx ⟨by omega,Nat.zero_le _,_,h0⟩
  (fun s W' h => h.2.2.elim fun o ho => ho.ar) (fun s W' W2 h hb => ⟨Nat.le_trans h.1 hb.size,h.2.1,h.2.2.elim fun o ho => ⟨o,ho.below hb⟩⟩) (fun s W' hs hp h => ⟨h.1,hs,by rw [setsOf_no hp]; exact h.2.2⟩)
  (fun s W' hs hp h => h.2.2.elim fun o ho => (where1_any w B p m v w.heap.size (w.heap.size + 1) s sv o ds (setsOf P s) W' ho (Nat.le_refl _) (by omega) h.1 hpl hml hsl (Nat.le_trans (setsOf_len P s) (by omega))).mono fun e w' hp2 => by
   obtain ⟨rfl,h1,h2⟩:=hp2
   exact ⟨true,rfl, .inl ⟨rfl,h1,hs,by rw [setsOf_yes hp]; exact h2⟩⟩))
 have HW:=Lib.hid hW
 clear hA hx hpl hml hsl hB hbx hsz h0 hW
 go_enter Tryz.func14,Tryz.ntmps14
 go_wp2_with fail
 rw [← HW.out]
 refine KE.out.mono ?_
 rintro e w2 ⟨rfl,h | h⟩
 ·obtain ⟨-, -,o,ho⟩:=h
  have c5 : w2.cell? ⟨w.heap.size,0,none⟩ = some o:=(Lib.cell_of_heap ho.box 0).trans rfl
  have HO:=Lib.hid ho
  clear ho
  go_wp2_with fail
  go_ret
  exact ⟨o,rfl,row_lower HO.out.row (Nat.le_succ _),HO.out.bl⟩
 ·exact h.elim
end
namespace Ws
open Go.Lib Go.Proofs.YthekfpgegiffoaaGreatDoor
def wt : List K → Nat
 | [] => 0
 | t :: r => t.text.size + 1 + wt r
theorem wt_mem (ts : List K) : ∀ t ∈ ts,t.text.size ≤ wt ts:=by
 induction ts with
 | nil => intro t h; simp at h
 | cons x r ih =>
  intro t h
  rcases List.mem_cons.1 h with rfl | h
  ·simp [wt]; omega
  ·have:=ih t h; simp [wt]; omega
theorem tk_wt (f : Int) : ∀ (p : Bool) (l : List Sp.Ch),wt ((Lx.tk p l).map (ofT f)) ≤ 2 * l.length:=by
 refine Lx.tkInd ?_ ?_ ?_
 ·intro p; simp [Lx.tk_nil,wt]
 ·intro p l hb ih
  rw [Lx.tk_blank p l hb]
  rw [List.length_drop] at ih
  omega
 ·intro p l hl hb ih
  have h1:=Lx.first_len l hl
  rw [Lx.tk_tok p l hl hb,List.map_cons,wt]
  rw [List.length_drop] at ih
  have hs : (ofT f (Lx.tokAt p l)).text.size ≤ (Lx.first (Lx.bytes l)).2:=by
   show (⟨(Lx.tokAt p l).text.toArray⟩ : ByteArray).size ≤ _
   rw [mk_size]
   unfold Lx.tokAt
   dsimp only
   rw [List.length_take]; omega
  omega
theorem lines_in (ts : List K) (x : Ln) (h : x ∈ Dx.lines ts) : x.toks.length ≤ ts.length ∧ ∀ t ∈ x.toks,t ∈ ts:=by
 obtain ⟨c,_,rfl⟩:=List.mem_map.1 h
 refine ⟨?_,fun t ht => ?_⟩
 ·show (((ts.drop c.1).take c.2).drop _).length ≤ _
  rw [List.length_drop,List.length_take,List.length_drop]
  omega
 ·exact List.mem_of_mem_drop (List.mem_of_mem_take (List.mem_of_mem_drop ht))
end Ws
section
open Go.RowKit Go.Shelf
def toksOf (s : ByteArray) : List K:=(Lx.tk false (Sp.left 0 s.data.toList)).map (ofT 0)
def linesOf (s : ByteArray) : List Ln:=Dx.lines (toksOf s)
theorem toksOf_small (s : ByteArray) : (toksOf s).length ≤ s.size ∧ ∀ t ∈ toksOf s,t.text.size ≤ 2 * s.size:=by
 have h1:=Lx.tk_length false (Sp.left 0 s.data.toList)
 have h2:=Sp.left_le 0 s.data.toList
 rw [size_list] at h2
 have h3:=Ws.tk_wt 0 false (Sp.left 0 s.data.toList)
 refine ⟨by unfold toksOf; rw [List.length_map]; omega,fun t ht => ?_⟩
 have:=Ws.wt_mem _ t ht
 unfold toksOf at this
 omega
theorem linesOf_small (s : ByteArray) (hs : s.size ≤ 1000) : (linesOf s).length ≤ s.size ∧ ∀ x ∈ linesOf s,Tb x.toks ∧ x.toks.length ≤ 1000:=by
 obtain ⟨h1,h2⟩:=toksOf_small s
 refine ⟨?_,fun x hx => ?_⟩
 ·have h3:=Dx.cuts_length (toksOf s)
  unfold linesOf Dx.lines
  rw [List.length_map]
  omega
 ·obtain ⟨h3,h4⟩:=Ws.lines_in _ x hx
  exact ⟨⟨by omega,fun t ht => by have:=h2 t (h4 t ht); omega⟩,by omega⟩
theorem l12lines_any (s : ByteArray) (hs : s.size ≤ 1000000) (w : World) (hG : Gv w) : Calls Tryz.prog 12 #[.string s] w fun e w' => ∃ u,e = .returned u ∧ Lns w' u (linesOf s) ∧ Below w.heap.size w w':=by
 have hsm:=(toksOf_small s).1
 have HG:=Lib.hid hG
 clear hG
 go_enter Tryz.func12,Tryz.ntmps12
 go_wp2_with fail
 refine (tokens_any 0 s (by omega) w HG.out.1).mono ?_
 rintro e w1 ⟨v,rfl,hv,hb⟩
 have hk:=hv.ks
 change Ks w1 v (toksOf s) at hk
 have KL:=Lib.hid (lines_any v (toksOf s) w1 hk (by omega) (HG.out.later hb).1)
 have HB:=Lib.hid hb
 clear hv hk hb
 go_wp2_with fail
 refine KL.out.mono ?_
 rintro e w2 ⟨u,rfl,hu,hb2⟩
 have HF:=Lib.hid (And.intro hu (Below.then HB.out hb2))
 clear hu hb2
 go_wp2_with fail
 go_ret
 exact ⟨u,rfl,HF.out⟩
end
section
open Go.RowKit Go.Shelf
open Lx (T)
theorem refjoin_row (s : ByteArray) (hs : s.size ≤ 4000000000) (w : World) :
  Calls Tryz.prog 133 #[.string s] w fun e W' => ∃ v,e = .returned v ∧ W'.ownsRow w.heap.size 143 2 v (Sp.left 0 s.data.toList).length (cellsC (Sp.left 0 s.data.toList)) ∧ Below w.heap.size w W':=by
 obtain ⟨i0,hi,hz0,hz1,hz2⟩:=info_parts info37
 have hfull:=Sp.left_le 0 s.data.toList
 rw [size_list] at hfull
 go_enter Tryz.func133,Tryz.ntmps133
 go_wp2_with fail
 go_loopw [3,4] (fun v i wr => ∃ (k : Nat) (pre : List Sp.Ch),i = .int .i64 k ∧ Split s.data.toList k pre ∧ wr.ownsRow w.heap.size 143 2 v pre.length (cellsC pre) ∧ Below w.heap.size w wr) (fun _ i _ => s.size - (intOf i).toNat)
 case atStart => exact ⟨0,[],rfl,split_start _,World.ownsRow_nil _ _ _ _,Below.refl _ _⟩
 case round =>
  obtain ⟨k,pre,rfl,hsp,hrow,hB⟩:=hrel
  have hsB:=hB.size
  have hkl:=hsp.1
  rw [size_list] at hkl
  by_cases hlt : k < s.size
  ·have hlt' : k < s.data.toList.length:=by rw [size_list]; exact hlt
   cases hp : Lib.hasPrefix (s.data.toList.drop k) [92,10] with
   | true =>
    obtain ⟨h2,hsp2⟩:=split_pair hsp hp
    rw [size_list] at h2
    obtain ⟨q1,q2⟩:=(pair_at s k (by omega)).1 hp
    have e1 : ((s[k].toNat : Int) == 92) = true:=by rw [q1]; rfl
    have e2 : ((s[k + 1].toNat : Int) == 10) = true:=by rw [q2]; rfl
    have e3 : k + 1 < s.size:=by omega
    clear hp q1 q2
    go_wp2_with fail
    go_roundw
    case rel => exact ⟨k + 2,pre,by go_num,hsp2,hrow,hB⟩
    case measure => simp [intOf]; omega
   | false =>
    obtain ⟨hsp2,hpre,hlen⟩:=split_one hsp hlt' hp
    rw [byte_at s k hlt] at hsp2
    have hcase : ((s[k].toNat : Int) == 92) = false ∨ (((s[k].toNat : Int) == 92) = true ∧ ¬ k + 1 < s.size) ∨ (∃ h : k + 1 < s.size,((s[k].toNat : Int) == 92) = true ∧ ((s[k + 1].toNat : Int) == 10) = false):=by
     have t1 : ((s[k].toNat : Int) == 92) = decide (s[k] = 92):=toNat_eq s[k] 92 (by decide)
     by_cases e1 : s[k] = 92
     ·by_cases e2 : k + 1 < s.size
      ·have t2 : ((s[k + 1].toNat : Int) == 10) = decide (s[k + 1] = 10):=toNat_eq s[k + 1] 10 (by decide)
       have e3 : ¬ s[k + 1] = 10:=fun e3 => by rw [(pair_at s k e2).2 ⟨e1,e3⟩] at hp; cases hp
       exact .inr (.inr ⟨e2,by rw [t1,decide_eq_true e1],by rw [t2,decide_eq_false e3]⟩)
      ·exact .inr (.inl ⟨by rw [t1,decide_eq_true e1],e2⟩)
     ·exact .inl (by rw [t1,decide_eq_false e1])
    clear hp hpre
    rcases hcase with e1 | ⟨e1,e2⟩ | ⟨e2,e1,e3⟩
    all_goals
     go_wp2_with (at_builtin; refine wpList_append_own _ rfl _ _ 137 rfl w.heap.size 143 i0 (.agg #[.int .u8 0, .int .i64 0]) 2 16 Tryz.underlying137 hi hz0 hz1 hz2 rfl (by decide) _ _ _ rfl (hrow.alloc _) ⟨wr.heap.size,0,none⟩ 1 1 [.int .u8 s[k].toNat, .int .i64 k] rfl rfl (cell_two_new _ _ _ _) (by simp [Value.oneCell']) (by unfold maxLen; omega) (by omega) (by simp; omega) ?_; intro v' w2 hown' hgrow _; obtain ⟨g',cap',rfl⟩:=ownsRow_succ hown')
     go_roundw
     case rel =>
      refine ⟨k + 1,pre ++ [(s[k],k)],by go_num,hsp2,?_,?_⟩
      ·rw [List.length_append,cellsC_append]; exact hown'
      ·exact (hB.alloc hsB _).grown hgrow (by simp; omega) (fun j ej => (hrow.lt j ej).1)
     case measure => simp [intOf]; omega
  ·have he:=split_end hsp (by rw [size_list]; omega)
   go_wp2_with fail
   go_ret
   rw [← he]
   exact ⟨_,rfl,hrow,hB⟩
theorem refjoin_any (s : ByteArray) (hs : s.size ≤ 4000000000) (w : World) : Calls Tryz.prog 133 #[.string s] w (JoinPost w s.data.toList) :=
 (refjoin_row s hs w).mono fun _ _ ⟨v,h1,h2,h3⟩ => ⟨v,h1,Chars.of_row h2,h3⟩
theorem reftext_any (v : Value) (l : List Sp.Ch) (w : World) (hv : Chars w v l) (hl : l.length ≤ 4000000000) :
  Calls Tryz.prog 134 #[v] w fun e w' => e = .returned (.string ⟨(l.map Prod.fst).toArray⟩) ∧ Below w.heap.size w w':=by
 obtain ⟨ad,cap,rfl, -⟩:=id hv
 rcases Nat.eq_zero_or_pos l.length with h0 | hpos
 ·obtain rfl : l = []:=List.length_eq_zero_iff.1 h0
  clear hv
  go_enter Tryz.func134,Tryz.ntmps134
  go_wp2_with fail
  go_loop [3,4] (fun t i => t = .string ⟨#[]⟩ ∧ i = .int .i64 0) (fun _ _ => 0)
  case atStart => exact ⟨rfl,rfl⟩
  case round =>
   obtain ⟨rfl,rfl⟩:=hrel
   go_wp2_with fail
   go_ret
   exact ⟨rfl,Below.refl _ _⟩
 ·obtain ⟨g,o,rfl,_,hcap,hmax,hg,hc⟩:=hv.cells hpos
  unfold maxLen at hmax
  obtain ⟨n,hn⟩ : ∃ n,n = l.length:=⟨_,rfl⟩
  rw [← hn] at hl hcap hpos
  rw [← hn]
  have Hn:=Lib.hid hn
  have HC:=Lib.hid hc
  clear hn hc hv
  go_enter Tryz.func134,Tryz.ntmps134
  go_wp2_with fail
  go_loopw [3,4] (fun t i wr => ∃ (k : Nat) (acc : List UInt8),i = .int .i64 k ∧ t = .string ⟨acc.toArray⟩ ∧ acc = (l.map Prod.fst).take k ∧ k ≤ n ∧ Below w.heap.size w wr) (fun _ i _ => n - (intOf i).toNat)
  case atStart => exact ⟨0,[],rfl,rfl,rfl,Nat.zero_le _,Below.refl _ _⟩
  case round =>
   obtain ⟨k,acc,rfl,rfl,ha,hk,hB⟩:=hrel
   have hsB:=hB.size
   have hlen : acc.length ≤ k:=by rw [ha]; simp; omega
   have HA:=Lib.hid ha
   clear ha
   by_cases hlt : k < n
   ·obtain ⟨x,hx⟩ : ∃ x,l[k]? = some x:=⟨_,List.getElem?_eq_getElem (by rw [← Hn.out]; exact hlt)⟩
    obtain ⟨c0,c1⟩:=HC.out k x hx
    have d0 : wr.cell? ⟨g,o + k * 2,none⟩ = some (.int .u8 x.1.toNat):=(hB.cell (p:=⟨g,o + k * 2,none⟩) hg).trans c0
    have ht : acc ++ [x.1] = (l.map Prod.fst).take (k + 1):=by
     have hx' : (l.map Prod.fst)[k]? = some x.1:=by rw [List.getElem?_map,hx]; rfl
     obtain ⟨hk2,hx2⟩:=List.getElem?_eq_some_iff.1 hx'
     rw [List.take_succ_eq_append_getElem hk2,hx2,HA.out]
    have HT:=Lib.hid ht
    clear ht hx c0 c1
    have hcv:=conv_one x.1 wr
    have had : ∀ W,(Op.stringOp .add ⟨acc.toArray⟩ ⟨#[x.1]⟩).run Tryz.prog W = .ok (.string ⟨(acc ++ [x.1]).toArray⟩) W:=fun W => add_run acc [x.1] (by simp; omega) W
    go_wp2_with fail
    go_roundw
    case rel => exact ⟨k + 1,acc ++ [x.1],by go_num,by simp,HT.out,by omega,hB.alloc hsB _⟩
    case measure => simp [intOf]; omega
   ·go_wp2_with fail
    go_ret
    refine ⟨?_,hB⟩
    have e : l.map Prod.fst = acc:=by rw [HA.out,List.take_of_length_le (by rw [List.length_map,← Hn.out]; omega)]
    rw [e]
    rfl
theorem rletter_any (c : UInt8) (w : World) : Calls Tryz.prog 203 #[.int .u8 c.toNat] w fun e w' => e = .returned (.bool (Lx.letter c)) ∧ w = w':=by
 have hl:=letter_int c
 obtain ⟨b,hb⟩ : ∃ b,b = Lx.letter c:=⟨_,rfl⟩
 rw [← hb] at hl ⊢
 obtain ⟨n,hn⟩ : ∃ n : Int,n = c.toNat:=⟨_,rfl⟩
 rw [← hn] at hl ⊢
 have HL:=Lib.hid hl
 clear hl hn hb
 go_enter Tryz.func203,Tryz.ntmps203
 go_wp2_with fail
 all_goals
  go_ret
  refine ⟨ret_bool ?_,rfl⟩
  rw [HL.out,Bool.eq_iff_iff]
  simp
  try omega
theorem rdigit_any (c : UInt8) (w : World) : Calls Tryz.prog 204 #[.int .u8 c.toNat] w fun e w' => e = .returned (.bool (Lx.digit c)) ∧ w = w':=by
 have hl:=digit_int c
 obtain ⟨b,hb⟩ : ∃ b,b = Lx.digit c:=⟨_,rfl⟩
 rw [← hb] at hl ⊢
 obtain ⟨n,hn⟩ : ∃ n : Int,n = c.toNat:=⟨_,rfl⟩
 rw [← hn] at hl ⊢
 have HL:=Lib.hid hl
 clear hl hn hb
 go_enter Tryz.func204,Tryz.ntmps204
 go_wp2_with fail
 all_goals
  go_ret
  refine ⟨ret_bool ?_,rfl⟩
  rw [HL.out,Bool.eq_iff_iff]
  simp
  try omega
end
end Go.Proofs.YthekfpgegiffoaaGreatDoor
