/- What is proved: opens, put, next, take of a rest. (and what stands with it) -/
import Derived.Test.YthekfpgegiffoaaGreatDoorQi
import Derived.Deep.AppendLies
import Derived.Deep.QuietTactic
import Derived.BigQuiet
import Derived.StillTailTactics
set_option linter.unusedSimpArgs false
set_option linter.unusedVariables false
set_option maxHeartbeats 16000000
set_option maxRecDepth 100000
namespace Go.Proofs.YthekfpgegiffoaaGreatDoor
section
open Go.RowKit Go.Shelf
open Ep (HT)
theorem Below.drewN {B : Nat} {w W : World} (h : Below B w W) (k : Nat) : Below B w (W.drewN k):=⟨h.os,h.tape,h.output,h.size,h.block⟩
theorem Rs.empty {W : World} {n lb : Nat} {lv : Value} {vs : List Value} {b : Bool} (h : Rs W n lb lv vs [] b) : ∃ a c,lv = .slice a 0 c:=by
 have h1 : vs = []:=h.ls
 have hrow:=h.row
 rw [h1] at hrow
 rcases hrow.2 with ⟨h',_⟩ | ⟨g',cap',cur,h',_⟩
 ·exact ⟨_,_,h'⟩
 ·exact ⟨_,_,h'⟩
theorem eopens_any (n lb : Nat) (lv : Value) (vs : List Value) (st : List (List HT)) (b : Bool) (w : World) (h : Rs w n lb lv vs st b) (hst : st.length ≤ 1000000) :
  Calls Tryz.prog 187 #[.pointer (some ⟨lb,0,none⟩)] w fun e w' => e = .returned (.bool (Ep.opens st)) ∧ Below w.heap.size w w':=by
 have c0:=h.c0
 cases st with
 | nil =>
  obtain ⟨a,c,rfl⟩:=h.empty
  clear h
  go_enter Tryz.func187,Tryz.ntmps187
  go_wp2_with fail
  go_quiet (fail)
  go_wp2_with fail
  go_ret
  exact ⟨rfl,Below.drewN (Below.refl _ _) _⟩
 | cons l st =>
  obtain ⟨us,gv,ov,cv,g,cap,rfl,rfl,hus,hv,b1,b2,hl0,hgv, -, -,hgl,hc1,hc2,n1,n2,n3,cg,fg⟩:=h.top
  obtain ⟨x,r,rfl⟩ : ∃ x r,l = x :: r:=by
   cases l with
   | nil => simp at hl0
   | cons x r => exact ⟨x,r,rfl⟩
  obtain ⟨g',o',e, -,hk, -⟩:=hs_some hv (show (x :: r)[0]? = some x from rfl)
  cases e
  obtain ⟨d0,d1,d2,d3,d4,d5⟩:=hk
  simp only [Nat.zero_mul,Nat.add_zero] at d0 d1 d2 d3 d4 d5
  obtain ⟨L,hL⟩ : ∃ L,L = (x :: r).length:=⟨_,rfl⟩
  rw [← hL] at cg b1 hl0
  obtain ⟨U,hU⟩ : ∃ U,U = us.length:=⟨_,rfl⟩
  have hU1 : U ≤ 1000000:=by simp at hst; omega
  rw [← hU] at c0 cg hc1
  have key:=fun W => esign_any x.t Mx.LP W
  have he : Ep.opens ((x :: r) :: st) = Mx.isP x.t Mx.LP:=rfl
  rw [he]
  obtain ⟨⟨kd,tx,f,fr,en,bl⟩,hd,mk⟩:=x
  dsimp only [kAgg] at d0 d1 d2 d3 d4 d5 key ⊢
  clear h hv hL hU hus hst he fg
  have z1 : (0 : Int) ≤ U:=by omega
  have z2 : (U : Int) < U + 1:=by omega
  have z5 : ((U : Int) + 1 - 1) = U:=by omega
  have z6 : IntKind.i64.wrap ((U : Int) + 1 - 1) = U:=by rw [z5]; exact IntWalk.i64_in _ (by omega)
  have z7 : (0 : Int) < U + 1:=by omega
  have z9 : IntKind.i64.wrap (U : Int) = U:=IntWalk.i64_in _ (by omega)
  have z8 : (0 : Int) < L:=by omega
  have KEY:=Lib.hid key
  clear key
  go_enter Tryz.func187,Tryz.ntmps187
  go_wp2_with fail
  go_still_tail 22,(by kernel_rfl)
  change wpList _ _ _ _ _ w.drew
  have hB : Below w.heap.size w w.drew:=(Below.refl _ _).drew
  generalize w.drew = w2 at hB ⊢
  have HB:=Lib.hid hB
  clear hB c0 cg d0 d1 d2 d3 d4 d5
  go_wp2_with fail
  refine (KEY.out _).mono ?_
  rintro e w3 ⟨rfl,hB3⟩
  go_wp2_with fail
  go_ret
  exact ⟨rfl,Below.then HB.out hB3⟩
theorem infoHts : (Tryz.prog.info? 267).map (fun i => (i.zero,i.size,i.bytes)) = some (some (.slice none 0 0),1,24):=by kernel_rfl
theorem Fr.grown {W W' : World} {N n e sz m : Nat} {v : Value} {xs : List Value} (h : W.ownsRow n e sz v m xs) (he : e = 310 ∨ e = 267) (hg : W.grownBy W' v.ownBlock) (hN : N ≤ n) : Fr false N n W W' :=
 ⟨hg.os,hg.tape,hg.output,hg.size,fun b o hb ho => by
  refine (hg.block b (Array.getElem?_eq_some_iff.1 hb).1 fun e' => ?_).trans hb
  have hlt:=h.lt b e'.symm
  rcases h.2 with ⟨h',_⟩ | ⟨g',cap',cur,h',_,h2',_⟩
  ·rw [h'] at e'; cases e'
  ·rw [h'] at e'
   simp only [Value.ownBlock,Option.some.injEq] at e'
   rw [← e',hb] at h2'
   cases h2'
   rcases ho with ho | ⟨_,ho | ho⟩
   ·omega
   ·rcases he with rfl | rfl
    ·exact ho.1 rfl
    ·exact ho.2 rfl
   ·omega⟩
theorem Rs.push {W W1 W2 : World} {N n lb : Nat} {lv lv' v : Value} {vs : List Value} {l : List HT} {st : List (List HT)} {b : Bool} (h : Rs W n lb lv vs st b) (hv : Hs W v l) (hne : l ≠ []) (hal : Below W.heap.size W W1)
  (hown : W2.ownsRow n 267 1 lv' (vs.length + 1) (vs ++ [v])) (hgrow : W1.grownBy W2 lv.ownBlock) (hoff' : lv'.ownBlock ≠ some lb) (hN : N ≤ n) :
  Rs (W2.setCell ⟨lb,0,none⟩ lv') n lb lv' (vs ++ [v]) (l :: st) b ∧ Fr false N n W (W2.setCell ⟨lb,0,none⟩ lv'):=by
 have h1:=h.below hal
 have hblk:=(hgrow.block lb h1.lt (Ne.symm h1.off)).trans h1.blk
 have k1 : Kept 314 W W2:=(Kept.of_below hal _).trans (row_kept h1.row hgrow (by decide))
 have k2 : Kept 379 W W2:=(Kept.of_below hal _).trans (row_kept h1.row hgrow (by decide))
 have s1:=Kept.set (t:=314) (i:=0) (u:=lv') hblk (by decide)
 have s2:=Kept.set (t:=379) (i:=0) (u:=lv') hblk (by decide)
 refine ⟨⟨by simp [World.setCell,Array.getElem?_modify,hblk],h.hn,?_,vs,v,rfl,(hv.keep k1 k2).keep s1 s2,hne,(h.ls.keep k1 k2).keep s1 s2⟩,?_⟩
 ·rw [show (vs ++ [v]).length = vs.length + 1 by simp]
  exact ownsRow_setCell_other hown hoff' _
 ·exact ((Fr.of_below hal).trans (Fr.grown h1.row (.inr rfl) hgrow hN)).trans (Fr.set_rest hblk (.inl rfl) h.hn hN)
end
section
open Go.RowKit Go.Shelf
open Ep (HT)
theorem Rs.setBlank {W : World} {n lb : Nat} {lv : Value} {vs : List Value} {st : List (List HT)} {b : Bool} (h : Rs W n lb lv vs st b) (b' : Bool) : Rs (W.setCell ⟨lb,1,none⟩ (.bool b')) n lb lv vs st b' :=
 ⟨by simp [World.setCell,Array.getElem?_modify,h.blk],h.hn,ownsRow_setCell_other h.row h.off _,h.ls.keep (Kept.set h.blk (by decide)) (Kept.set h.blk (by decide))⟩
theorem box8_cells {W : World} {b t : Nat} {a0 a1 a2 a3 a4 a5 a6 a7 : Value} (h : W.heap[b]? = some (.cells #[a0,a1,a2,a3,a4,a5,a6,a7] t (0,0))) :
  W.cell? ⟨b,0,none⟩ = some a0 ∧ W.cell? ⟨b,1,none⟩ = some a1 ∧ W.cell? ⟨b,2,none⟩ = some a2 ∧ W.cell? ⟨b,3,none⟩ = some a3 ∧ W.cell? ⟨b,4,none⟩ = some a4 ∧ W.cell? ⟨b,5,none⟩ = some a5 ∧ W.cell? ⟨b,6,none⟩ = some a6 ∧ W.cell? ⟨b,7,none⟩ = some a7 ∧ (∀ i,W.frozen? ⟨b,i,none⟩ = false) :=
 ⟨(Lib.cell_of_heap h 0).trans rfl,(Lib.cell_of_heap h 1).trans rfl,(Lib.cell_of_heap h 2).trans rfl,(Lib.cell_of_heap h 3).trans rfl,(Lib.cell_of_heap h 4).trans rfl,(Lib.cell_of_heap h 5).trans rfl,(Lib.cell_of_heap h 6).trans rfl,(Lib.cell_of_heap h 7).trans rfl,fun i => by simp [World.frozen?,h]⟩
def set8 (W : World) (B : Nat) (a0 a1 a2 a3 a4 a5 a6 a7 : Value) : World :=
 ((((((((W.setCell ⟨B,0,none⟩ a0).setCell ⟨B,1,none⟩ a1).setCell ⟨B,2,none⟩ a2).setCell ⟨B,3,none⟩ a3).setCell ⟨B,4,none⟩ a4).setCell ⟨B,5,none⟩ a5).setCell ⟨B,6,none⟩ a6).setCell ⟨B,7,none⟩ a7)
theorem set8_at {W : World} {B : Nat} {t : TypeId} {z0 z1 z2 z3 z4 z5 z6 z7 : Value} (h : W.heap[B]? = some (.cells #[z0,z1,z2,z3,z4,z5,z6,z7] t (0,0))) (a0 a1 a2 a3 a4 a5 a6 a7 : Value) :
  (set8 W B a0 a1 a2 a3 a4 a5 a6 a7).heap[B]? = some (.cells #[a0,a1,a2,a3,a4,a5,a6,a7] t (0,0)):=by
 simp [set8,World.setCell,Array.getElem?_modify,h]
theorem set8_only (W : World) (B : Nat) (a0 a1 a2 a3 a4 a5 a6 a7 : Value) : Only1 B W (set8 W B a0 a1 a2 a3 a4 a5 a6 a7):=fun k hk => by
 unfold set8
 rw [heap_setCell_other _ _ _ _ hk,heap_setCell_other _ _ _ _ hk,heap_setCell_other _ _ _ _ hk,heap_setCell_other _ _ _ _ hk,heap_setCell_other _ _ _ _ hk,heap_setCell_other _ _ _ _ hk,heap_setCell_other _ _ _ _ hk,heap_setCell_other _ _ _ _ hk]
theorem set8_below {n B : Nat} {w W : World} (hB : Below n w W) (hn : n ≤ B) (a0 a1 a2 a3 a4 a5 a6 a7 : Value) : Below n w (set8 W B a0 a1 a2 a3 a4 a5 a6 a7) :=
 (((((((hB.setCell hn _).setCell hn _).setCell hn _).setCell hn _).setCell hn _).setCell hn _).setCell hn _).setCell hn _
theorem Fr.only {x : Bool} {N n B : Nat} {w W W' : World} (h : Fr x N n w W) (k : Only1 B W W') (hB : w.heap.size ≤ B) (h1 : W'.os = W.os) (h2 : W'.tape = W.tape) (h3 : W'.output = W.output) (h4 : W.heap.size ≤ W'.heap.size) : Fr x N n w W' :=
 ⟨h1.trans h.os,h2.trans h.tape,h3.trans h.output,Nat.le_trans h.size h4,fun b o hb ho => by
  have hlt:=(Array.getElem?_eq_some_iff.1 hb).1
  exact (k b (by omega)).trans (h.block b o hb ho)⟩
theorem Fr.set8 {x : Bool} {N n B : Nat} {w W : World} (h : Fr x N n w W) (hB : w.heap.size ≤ B) (a0 a1 a2 a3 a4 a5 a6 a7 : Value) : Fr x N n w (Go.Proofs.YthekfpgegiffoaaGreatDoor.set8 W B a0 a1 a2 a3 a4 a5 a6 a7) :=
 have b:=set8_below (Below.refl B W) (Nat.le_refl B) a0 a1 a2 a3 a4 a5 a6 a7
 h.only (set8_only W B a0 a1 a2 a3 a4 a5 a6 a7) hB b.os b.tape b.output b.size
def zeroHt : Value:=.agg #[.int .i64 0, .string ⟨#[]⟩, .int .i64 0, .int .i64 0, .int .i64 0, .bool false, .pointer none, .bool false]
theorem enext_none (n lb : Nat) (lv : Value) (vs : List Value) (b : Bool) (w : World) (h : Rs w n lb lv vs [] b) :
  Calls Tryz.prog 185 #[.pointer (some ⟨lb,0,none⟩)] w fun e w' => e = .returned (.tuple #[zeroHt, .bool false]) ∧ Below w.heap.size w w':=by
 have c0:=h.c0
 have hlt:=h.lt
 obtain ⟨a,c,rfl⟩:=h.empty
 clear h
 have hB : Below w.heap.size w (w.alloc (.cells #[.int .i64 0, .string ⟨#[]⟩, .int .i64 0, .int .i64 0, .int .i64 0, .bool false, .pointer none, .bool false] 314)):=(Below.refl _ _).alloc (Nat.le_refl _) _
 have HB:=Lib.hid hB
 clear hB
 go_enter Tryz.func185,Tryz.ntmps185
 go_wp2_with fail
 exact bodyPost_ret (v:=.tuple #[zeroHt, .bool false]) (by simp [results,Tryz.results185,go_sem,zeroHt]) rfl ⟨rfl,HB.out⟩
theorem enext_some (N n lb : Nat) (lv : Value) (vs : List Value) (x : HT) (r : List HT) (st : List (List HT)) (b : Bool) (w : World) (h : Rs w n lb lv vs ((x :: r) :: st) b) (hN : N ≤ n) (hl : (x :: r).length ≤ 1000000) (hst : st.length ≤ 1000000) :
  Calls Tryz.prog 185 #[.pointer (some ⟨lb,0,none⟩)] w fun e w' => ∃ p,e = .returned (.tuple #[htAgg ⟨Ep.blK x.t (x.t.bl || b),x.hd,x.mark⟩ p, .bool true]) ∧ HidP w' p x.hd ∧ (∃ lv' vs',Rs w' n lb lv' vs' (Ep.drop1 1 ((x :: r) :: st)) false ∧ Sub vs' vs) ∧ Fr false N n w w':=by
 have c0:=h.c0
 have c1:=h.c1
 have f1:=h.froz 1
 have hlt:=h.lt
 have HH:=Lib.hid h
 have hoff:=Lib.hid (h.ls.off (Nat.le_refl _))
 obtain ⟨us,gv,ov,cv,g,cap,rfl,rfl,hus,hv,b1,b2,hl0,hgv, -, -,hgl,hc1,hc2,n1,n2,n3,cg,fg⟩:=h.top
 obtain ⟨g',o',e, -,⟨d0,d1,d2,d3,d4,d5⟩,p,d6,d7,hp⟩:=hs_some hv (show (x :: r)[0]? = some x from rfl)
 cases e
 simp only [Nat.zero_mul,Nat.add_zero] at d0 d1 d2 d3 d4 d5 d6 d7
 obtain ⟨L,hL⟩ : ∃ L,L = (x :: r).length:=⟨_,rfl⟩
 rw [← hL] at cg b1 hl0
 obtain ⟨U,hU⟩ : ∃ U,U = us.length:=⟨_,rfl⟩
 have hU1 : U ≤ 1000000:=by omega
 rw [← hU] at c0 cg hc1
 have HL:=Lib.hid hl
 have HST:=Lib.hid hst
 have HP:=Lib.hid hp
 obtain ⟨⟨kd,tx,f,fr,en,bl⟩,hd,mk⟩:=x
 dsimp only at d0 d1 d2 d3 d4 d5 d6 d7
 clear h hv hL hU hus hst fg hl hp
 have z1 : (0 : Int) ≤ U:=by omega
 have z2 : (U : Int) < U + 1:=by omega
 have z5 : ((U : Int) + 1 - 1) = U:=by omega
 have z6 : IntKind.i64.wrap ((U : Int) + 1 - 1) = U:=by rw [z5]; exact IntWalk.i64_in _ (by omega)
 have z8 : (0 : Int) < L:=by omega
 have z9 : IntKind.i64.wrap (U : Int) = U:=IntWalk.i64_in _ (by omega)
 cases bl
 ·go_enter Tryz.func185,Tryz.ntmps185
  go_wp2_with fail
  go_region
  go_wp2_with fail
  have hA : Below (w.setCell ⟨lb,1,none⟩ (.bool false)).heap.size (w.setCell ⟨lb,1,none⟩ (.bool false)) ((((w.setCell ⟨lb,1,none⟩ (.bool false)).alloc (.cells #[.int .i64 0, .string ⟨#[]⟩, .int .i64 0, .int .i64 0, .int .i64 0, .bool false, .pointer none, .bool false] 314)).alloc (.cells #[.int .i64 kd, .string tx, .int .i64 f, .int .i64 fr, .int .i64 en, .bool b, .pointer p, .bool mk] 314)).drew):=(((Below.refl _ _).alloc (Nat.le_refl _) _).alloc (by simp) _).drew
  have hR:=(HH.out.setBlank false).below hA
  have hF : Fr false N n w _:=(Fr.set_rest (i:=1) (u:=.bool false) HH.out.blk (.inl rfl) HH.out.hn hN).trans (Fr.of_below hA)
  have hp2:=hF.hid HP.out
  have k1:=heap_alloc2_old (w.setCell ⟨lb,1,none⟩ (.bool false)) (.cells #[.int .i64 0, .string ⟨#[]⟩, .int .i64 0, .int .i64 0, .int .i64 0, .bool false, .pointer none, .bool false] 314) (.cells #[.int .i64 kd, .string tx, .int .i64 f, .int .i64 fr, .int .i64 en, .bool b, .pointer p, .bool mk] 314)
  have k2:=heap_alloc2_new (w.setCell ⟨lb,1,none⟩ (.bool false)) (.cells #[.int .i64 0, .string ⟨#[]⟩, .int .i64 0, .int .i64 0, .int .i64 0, .bool false, .pointer none, .bool false] 314) (.cells #[.int .i64 kd, .string tx, .int .i64 f, .int .i64 fr, .int .i64 en, .bool b, .pointer p, .bool mk] 314)
  rw [← heap_drew] at k1 k2
  rw [show (w.setCell ⟨lb,1,none⟩ (.bool false)).heap.size = w.heap.size by simp] at k1 k2
  generalize ((((w.setCell ⟨lb,1,none⟩ (.bool false)).alloc (.cells #[.int .i64 0, .string ⟨#[]⟩, .int .i64 0, .int .i64 0, .int .i64 0, .bool false, .pointer none, .bool false] 314)).alloc (.cells #[.int .i64 kd, .string tx, .int .i64 f, .int .i64 fr, .int .i64 en, .bool b, .pointer p, .bool mk] 314)).drew) = W1 at hR hF hp2 k1 k2 ⊢
  clear hA c0 c1 f1 cg d0 d1 d2 d3 d4 d5 d6 d7
  refine (edrop_any N n lb _ _ _ st false 1 W1 hR (by simp) hN HL.out HST.out).mono ?_
  rintro e w4 ⟨rfl,⟨lv4,vs4,hR4,hsub⟩,hF4⟩
  have k1:=hF4.ht _ _ _ k1
  have k2:=hF4.ht _ _ _ k2
  have hp4:=hF4.hid hp2
  have hF5:=hF.trans hF4
  obtain ⟨u0,u1,u2,u3,u4,u5,u6,u7, -⟩:=box8_cells k2
  obtain ⟨v0,v1,v2,v3,v4,v5,v6,v7,vf⟩:=box8_cells k1
  have K1:=Lib.hid k1
  have HF5:=Lib.hid hF5
  have HS4:=Lib.hid hsub
  have HR4:=Lib.hid hR4
  have HP4:=Lib.hid hp4
  clear hsub k1 k2 hF hF4 hF5 hR hR4 hp2 hp4
  go_wp2_with fail
  have K5:=set8_at K1.out (.int .i64 kd) (.string tx) (.int .i64 f) (.int .i64 fr) (.int .i64 en) (.bool b) (.pointer p) (.bool mk)
  have R5:=HR4.out.only (set8_only w4 w.heap.size (.int .i64 kd) (.string tx) (.int .i64 f) (.int .i64 fr) (.int .i64 en) (.bool b) (.pointer p) (.bool mk)) K1.out (HS4.out.off hoff.out)
  have P5:=HP4.out.keep ((set8_only w4 w.heap.size (.int .i64 kd) (.string tx) (.int .i64 f) (.int .i64 fr) (.int .i64 en) (.bool b) (.pointer p) (.bool mk)).kept K1.out (by decide))
  have F5:=HF5.out.set8 (B:=w.heap.size) (Nat.le_refl _) (.int .i64 kd) (.string tx) (.int .i64 f) (.int .i64 fr) (.int .i64 en) (.bool b) (.pointer p) (.bool mk)
  obtain ⟨v0,v1,v2,v3,v4,v5,v6,v7, -⟩:=box8_cells K5
  show bodyPost _ _ _ _ _ (set8 w4 w.heap.size (.int .i64 kd) (.string tx) (.int .i64 f) (.int .i64 fr) (.int .i64 en) (.bool b) (.pointer p) (.bool mk))
  generalize set8 w4 w.heap.size (.int .i64 kd) (.string tx) (.int .i64 f) (.int .i64 fr) (.int .i64 en) (.bool b) (.pointer p) (.bool mk) = W5 at K5 R5 P5 F5 v0 v1 v2 v3 v4 v5 v6 v7 ⊢
  exact bodyPost_ret (v:=.tuple #[.agg #[.int .i64 kd, .string tx, .int .i64 f, .int .i64 fr, .int .i64 en, .bool b, .pointer p, .bool mk], .bool true]) (by simp [results,Tryz.results185,go_sem,v0,v1,v2,v3,v4,v5,v6,v7]) rfl ⟨p,rfl,P5,⟨_,_,R5,HS4.out⟩,F5⟩
 ·go_enter Tryz.func185,Tryz.ntmps185
  go_wp2_with fail
  go_region
  go_wp2_with fail
  have hA : Below (w.setCell ⟨lb,1,none⟩ (.bool false)).heap.size (w.setCell ⟨lb,1,none⟩ (.bool false)) ((((w.setCell ⟨lb,1,none⟩ (.bool false)).alloc (.cells #[.int .i64 0, .string ⟨#[]⟩, .int .i64 0, .int .i64 0, .int .i64 0, .bool false, .pointer none, .bool false] 314)).alloc (.cells #[.int .i64 kd, .string tx, .int .i64 f, .int .i64 fr, .int .i64 en, .bool true, .pointer p, .bool mk] 314)).drew):=(((Below.refl _ _).alloc (Nat.le_refl _) _).alloc (by simp) _).drew
  have hR:=(HH.out.setBlank false).below hA
  have hF : Fr false N n w _:=(Fr.set_rest (i:=1) (u:=.bool false) HH.out.blk (.inl rfl) HH.out.hn hN).trans (Fr.of_below hA)
  have hp2:=hF.hid HP.out
  have k1:=heap_alloc2_old (w.setCell ⟨lb,1,none⟩ (.bool false)) (.cells #[.int .i64 0, .string ⟨#[]⟩, .int .i64 0, .int .i64 0, .int .i64 0, .bool false, .pointer none, .bool false] 314) (.cells #[.int .i64 kd, .string tx, .int .i64 f, .int .i64 fr, .int .i64 en, .bool true, .pointer p, .bool mk] 314)
  have k2:=heap_alloc2_new (w.setCell ⟨lb,1,none⟩ (.bool false)) (.cells #[.int .i64 0, .string ⟨#[]⟩, .int .i64 0, .int .i64 0, .int .i64 0, .bool false, .pointer none, .bool false] 314) (.cells #[.int .i64 kd, .string tx, .int .i64 f, .int .i64 fr, .int .i64 en, .bool true, .pointer p, .bool mk] 314)
  rw [← heap_drew] at k1 k2
  rw [show (w.setCell ⟨lb,1,none⟩ (.bool false)).heap.size = w.heap.size by simp] at k1 k2
  generalize ((((w.setCell ⟨lb,1,none⟩ (.bool false)).alloc (.cells #[.int .i64 0, .string ⟨#[]⟩, .int .i64 0, .int .i64 0, .int .i64 0, .bool false, .pointer none, .bool false] 314)).alloc (.cells #[.int .i64 kd, .string tx, .int .i64 f, .int .i64 fr, .int .i64 en, .bool true, .pointer p, .bool mk] 314)).drew) = W1 at hR hF hp2 k1 k2 ⊢
  clear hA c0 c1 f1 cg d0 d1 d2 d3 d4 d5 d6 d7
  refine (edrop_any N n lb _ _ _ st false 1 W1 hR (by simp) hN HL.out HST.out).mono ?_
  rintro e w4 ⟨rfl,⟨lv4,vs4,hR4,hsub⟩,hF4⟩
  have k1:=hF4.ht _ _ _ k1
  have k2:=hF4.ht _ _ _ k2
  have hp4:=hF4.hid hp2
  have hF5:=hF.trans hF4
  obtain ⟨u0,u1,u2,u3,u4,u5,u6,u7, -⟩:=box8_cells k2
  obtain ⟨v0,v1,v2,v3,v4,v5,v6,v7,vf⟩:=box8_cells k1
  have K1:=Lib.hid k1
  have HF5:=Lib.hid hF5
  have HS4:=Lib.hid hsub
  have HR4:=Lib.hid hR4
  have HP4:=Lib.hid hp4
  clear hsub k1 k2 hF hF4 hF5 hR hR4 hp2 hp4
  go_wp2_with fail
  have K5:=set8_at K1.out (.int .i64 kd) (.string tx) (.int .i64 f) (.int .i64 fr) (.int .i64 en) (.bool true) (.pointer p) (.bool mk)
  have R5:=HR4.out.only (set8_only w4 w.heap.size (.int .i64 kd) (.string tx) (.int .i64 f) (.int .i64 fr) (.int .i64 en) (.bool true) (.pointer p) (.bool mk)) K1.out (HS4.out.off hoff.out)
  have P5:=HP4.out.keep ((set8_only w4 w.heap.size (.int .i64 kd) (.string tx) (.int .i64 f) (.int .i64 fr) (.int .i64 en) (.bool true) (.pointer p) (.bool mk)).kept K1.out (by decide))
  have F5:=HF5.out.set8 (B:=w.heap.size) (Nat.le_refl _) (.int .i64 kd) (.string tx) (.int .i64 f) (.int .i64 fr) (.int .i64 en) (.bool true) (.pointer p) (.bool mk)
  obtain ⟨v0,v1,v2,v3,v4,v5,v6,v7, -⟩:=box8_cells K5
  show bodyPost _ _ _ _ _ (set8 w4 w.heap.size (.int .i64 kd) (.string tx) (.int .i64 f) (.int .i64 fr) (.int .i64 en) (.bool true) (.pointer p) (.bool mk))
  generalize set8 w4 w.heap.size (.int .i64 kd) (.string tx) (.int .i64 f) (.int .i64 fr) (.int .i64 en) (.bool true) (.pointer p) (.bool mk) = W5 at K5 R5 P5 F5 v0 v1 v2 v3 v4 v5 v6 v7 ⊢
  exact bodyPost_ret (v:=.tuple #[.agg #[.int .i64 kd, .string tx, .int .i64 f, .int .i64 fr, .int .i64 en, .bool true, .pointer p, .bool mk], .bool true]) (by simp [results,Tryz.results185,go_sem,v0,v1,v2,v3,v4,v5,v6,v7]) rfl ⟨p,rfl,P5,⟨_,_,R5,HS4.out⟩,F5⟩
end
section
open Go.RowKit Go.Shelf Go.WideMaps
open Mx (M VA isP HH HS)
theorem eparamOf_any (t : K) (mb N : Nat) (f : ByteArray → Option Nat) (w : World) (h : PMap w mb N f) (ht : t.text.size ≤ 1000000000) :
  Calls Tryz.prog 294 #[kAgg t, .map (some mb)] w fun e w' => e = .returned (.tuple #[.int .i64 (((f t.text).getD 0 : Nat) : Int), .bool ((f t.text).isSome && t.kind == 1)]) ∧ Below w.heap.size w w':=by
 obtain ⟨kd,tx,fl,fr,en,bl⟩:=t
 dsimp only [kAgg] at ht ⊢
 have hA : Below w.heap.size w (w.alloc (.cells #[.int .i64 kd, .string tx, .int .i64 fl, .int .i64 fr, .int .i64 en, .bool bl] 63)):=(Below.refl _ w).alloc (Nat.le_refl _) _
 have hl:=(h.below hA).look tx (by unfold maxLen; omega)
 obtain ⟨a,ha⟩ : ∃ a : Int,a = (((f tx).getD 0 : Nat) : Int):=⟨_,rfl⟩
 obtain ⟨q,hq⟩ : ∃ q,q = (f tx).isSome:=⟨_,rfl⟩
 rw [← ha,← hq] at hl ⊢
 have HA:=Lib.hid hA
 clear ha hq hA h
 go_enter Tryz.func294,Tryz.ntmps294
 cases q with
 | true =>
  go_wp2_with fail
  go_quiet (fail)
  go_wp2_with fail
  go_ret2
  simp only [Bool.true_and]
  exact ⟨rfl,Below.drewN HA.out _⟩
 | false =>
  go_wp2_with fail
  go_quiet (fail)
  go_wp2_with fail
  go_ret2
  exact ⟨rfl,Below.drewN HA.out _⟩
end
section
open Go.RowKit Go.Shelf Go.WideMaps
open Mx (M VA isP HH HS)
def pcV (p : Ep.Pc) : Value:=.agg #[.int .i64 p.t.kind, .string p.t.text, .int .i64 p.t.file, .int .i64 p.t.fr, .int .i64 p.t.en, .bool p.t.bl, .int .i64 (p.way : Int), .int .i64 (p.par : Int)]
structure PcB (w0 W : World) (B : Nat) (nm : ByteArray) (fn : Bool) (pv : Value) (va : Bool) (ad : Option Addr) (n cap : Nat) (body : List K) (t : K) : Prop where
 k3 : W.heap[B]? = some (.cells #[.string nm, .bool fn,pv, .bool va, .slice ad n cap] 168 (0,0))
 k6 : W.heap[B + 1]? = some (.cells #[.int .i64 0, .string ⟨#[]⟩, .int .i64 0, .int .i64 0, .int .i64 0, .bool false, .int .i64 0, .int .i64 0] 390 (0,0))
 k7 : W.heap[B + 2]? = some (.cells #[.int .i64 t.kind, .string t.text, .int .i64 t.file, .int .i64 t.fr, .int .i64 t.en, .bool t.bl] 63 (0,0))
 ks : Ks W (.slice ad n cap) body
 hB : Below w0.heap.size w0 W
 hn : w0.heap.size ≤ B
theorem PcB.call {w0 W W' : World} {B : Nat} {nm : ByteArray} {fn : Bool} {pv : Value} {va : Bool} {ad : Option Addr} {n cap : Nat} {body : List K} {t : K} (h : PcB w0 W B nm fn pv va ad n cap body t) (hb : Below W.heap.size W W') : PcB w0 W' B nm fn pv va ad n cap body t :=
 ⟨(hb.block _ (lt_of_heap h.k3)).trans h.k3,(hb.block _ (lt_of_heap h.k6)).trans h.k6,(hb.block _ (lt_of_heap h.k7)).trans h.k7,h.ks.below hb,Below.then h.hB hb,h.hn⟩
theorem mac_cells {W : World} {B : Nat} {a0 a1 a2 a3 a4 : Value} {t : TypeId} (h : W.heap[B]? = some (.cells #[a0,a1,a2,a3,a4] t (0,0))) :
  W.cell? ⟨B,0,none⟩ = some a0 ∧ W.cell? ⟨B,1,none⟩ = some a1 ∧ W.cell? ⟨B,2,none⟩ = some a2 ∧ W.cell? ⟨B,3,none⟩ = some a3 ∧ W.cell? ⟨B,4,none⟩ = some a4 :=
 ⟨(Lib.cell_of_heap h 0).trans rfl,(Lib.cell_of_heap h 1).trans rfl,(Lib.cell_of_heap h 2).trans rfl,(Lib.cell_of_heap h 3).trans rfl,(Lib.cell_of_heap h 4).trans rfl⟩
noncomputable def pieceBody : Code:=Tryz.f270.body.getD .skip
theorem pc_end {w0 W : World} {B : Nat} {nm : ByteArray} {fn : Bool} {pv : Value} {va : Bool} {ad : Option Addr} {n cap : Nat} {body : List K} {t : K} (h : PcB w0 W B nm fn pv va ad n cap body t) (way par : Nat) (tm : Array Value) (hx : tm[6]? = some (.pointer (some ⟨B + 1,0,none⟩))) (e : Exit) (he : e = .ret) :
  bodyPost Tryz.prog Tryz.f270 (fun e w' => e = .returned (pcV ⟨t,way,par⟩) ∧ Below w0.heap.size w0 w') e ⟨tm,[]⟩ (set8 W (B + 1) (.int .i64 t.kind) (.string t.text) (.int .i64 t.file) (.int .i64 t.fr) (.int .i64 t.en) (.bool t.bl) (.int .i64 (way : Int)) (.int .i64 (par : Int))):=by
 subst he
 have h5:=set8_at h.k6 (.int .i64 t.kind) (.string t.text) (.int .i64 t.file) (.int .i64 t.fr) (.int .i64 t.en) (.bool t.bl) (.int .i64 (way : Int)) (.int .i64 (par : Int))
 have hb:=set8_below (n:=w0.heap.size) (B:=B + 1) h.hB (by have:=h.hn; omega) (.int .i64 t.kind) (.string t.text) (.int .i64 t.file) (.int .i64 t.fr) (.int .i64 t.en) (.bool t.bl) (.int .i64 (way : Int)) (.int .i64 (par : Int))
 generalize set8 W (B + 1) (.int .i64 t.kind) (.string t.text) (.int .i64 t.file) (.int .i64 t.fr) (.int .i64 t.en) (.bool t.bl) (.int .i64 (way : Int)) (.int .i64 (par : Int)) = W5 at h5 hb ⊢
 obtain ⟨v0,v1,v2,v3,v4,v5,v6,v7, -⟩:=box8_cells h5
 exact bodyPost_ret (v:=pcV ⟨t,way,par⟩) (by simp [results,Tryz.results270,go_sem,v0,v1,v2,v3,v4,v5,v6,v7,hx,pcV]) rfl ⟨rfl,hb⟩
theorem pc_tail4 (w0 W : World) (B mb N i : Nat) (m : M) (pv : Value) (ad : Option Addr) (cap : Nat) (t : K) (c0 c4 c5 c8 c9 c10 c11 c12 c13 c14 c15 c16 c17 c18 c19 c20 c21 c22 c23 c24 c25 c26 c27 c28 c29 c30 c31 c32 c33 c34 c35 c36 c37 c38 c39 c40 c41 c42 c43 c44 c45 c46 c47 c48 c49 c50 c51 c52 c53 c54 c55 c56 c57 c58 c59 c60 c61 c62 c63 c64 c65 c66 c67 c68 c69 c70 c71 c72 c73 c74 c75 c76 c77 c78 c79 c80 c81 c82 c83 c84 c85 c86 c87 c88 c89 : Value)
  (h : PcB w0 W B m.name m.fn pv m.va ad m.body.length cap m.body t) (hm : PMap W mb N (Ep.parIx m)) (ht : m.body[i]? = some t) (hx : ∀ u ∈ m.body,u.text.size ≤ 1000000000) (hl : m.body.length ≤ 1000000) (h1 : isP t HH = false) (h2 : (isP t HS && (Ep.parIn m m.body[i + 1]?).isSome) = false) :
  Code.wp Tryz.prog (secs 4 pieceBody) (bodyPost Tryz.prog Tryz.f270 (fun e w' => e = .returned (pcV (Ep.pieceOf m i)) ∧ Below w0.heap.size w0 w')) ⟨#[c0, .map (some mb), .int .i64 i, .pointer (some ⟨B,0,none⟩),c4,c5, .pointer (some ⟨B + 1,0,none⟩), .pointer (some ⟨B + 2,0,none⟩),c8,c9,c10,c11,c12,c13,c14,c15,c16,c17,c18,c19,c20,c21,c22,c23,c24,c25,c26,c27,c28,c29,c30,c31,c32,c33,c34,c35,c36,c37,c38,c39,c40,c41,c42,c43,c44,c45,c46,c47,c48,c49,c50,c51,c52,c53,c54,c55,c56,c57,c58,c59,c60,c61,c62,c63,c64,c65,c66,c67,c68,c69,c70,c71,c72,c73,c74,c75,c76,c77,c78,c79,c80,c81,c82,c83,c84,c85,c86,c87,c88,c89],[]⟩ W:=by
 have hi:=(List.getElem?_eq_some_iff.1 ht).1
 have hP : Ep.pieceOf m i = (match Ep.parOf m t with | none => ⟨t,0,0⟩ | some p => if Ep.isIn (if i = 0 then none else m.body[i - 1]?) HH || Ep.isIn m.body[i + 1]? HH then ⟨t,3,p⟩ else ⟨t,4,p⟩):=by
  unfold Ep.pieceOf
  rw [ht]
  simp only [Ep.pieceAt,h1,h2]
  rfl
 have hpo : Ep.parOf m t = if ((Ep.parIx m t.text).isSome && t.kind == 1) then some ((Ep.parIx m t.text).getD 0) else none:=by
  unfold Ep.parOf
  cases hk : (t.kind == 1) with
  | false => simp
  | true => cases Ep.parIx m t.text <;> simp
 have key:=fun W' h' => eparamOf_any t mb N (Ep.parIx m) W' h' (hx t (List.mem_of_getElem? ht))
 obtain ⟨q,hq⟩ : ∃ q,q = ((Ep.parIx m t.text).isSome && t.kind == 1):=⟨_,rfl⟩
 obtain ⟨p,hp⟩ : ∃ p,p = (Ep.parIx m t.text).getD 0:=⟨_,rfl⟩
 rw [← hq,← hp] at key
 rw [← hq,← hp] at hpo
 rw [hpo] at hP
 obtain ⟨P,hPP⟩ : ∃ P,P = Ep.pieceOf m i:=⟨_,rfl⟩
 rw [← hPP] at hP ⊢
 have HP:=Lib.hid hP
 have HKEY:=Lib.hid key
 have H0:=Lib.hid h
 have HM:=Lib.hid hm
 have HT:=Lib.hid ht
 obtain ⟨c0,c1,c2,c3,c4⟩:=mac_cells h.k3
 obtain ⟨d0,d1,d2,d3,d4,d5⟩:=box6_cells h.k7
 clear hP key hPP hpo hq hp hx h1 h2 h hm ht
 refine wp_sec 4 pieceBody rfl ?_
 conv => arg 2; whnf
 go_wp2_with fail
 refine (HKEY.out W HM.out).mono ?_
 rintro e W1 ⟨rfl,hb1⟩
 have h1:=H0.out.call hb1
 have H1:=Lib.hid h1
 obtain ⟨c0',c1',c2',c3',c4'⟩:=mac_cells h1.k3
 obtain ⟨d0',d1',d2',d3',d4',d5'⟩:=box6_cells h1.k7
 obtain ⟨s0,s1,s2,s3,s4,s5,s6,s7,sf⟩:=box8_cells h1.k6
 clear h1 c0 c1 c2 c3 c4 d0 d1 d2 d3 d4 d5 hb1
 go_wp2_with fail
 refine wp_sec 5 pieceBody rfl ?_
 conv => arg 2; whnf
 cases q with
 | false =>
  go_wp2_with fail
  rw [show P = ⟨t,0,0⟩ from HP.out]
  exact pc_end H1.out 0 0 _ rfl _ rfl
 | true =>
  have hP:=HP.out
  simp only [if_true] at hP
  rcases Nat.eq_zero_or_pos i with hi0 | hi0
  ·rw [if_pos hi0] at hP
   simp only [Ep.isIn,Bool.false_or] at hP
   have g1 : ¬ ((0 : Int) < i):=by omega
   have g2' : decide ((0 : Int) < i) = false:=decide_eq_false g1
   clear hi0
   rcases Nat.lt_or_ge (i + 1) m.body.length with hnx | hnx
   ·obtain ⟨tn,htn⟩ : ∃ tn,m.body[i + 1]? = some tn:=⟨_,List.getElem?_eq_getElem hnx⟩
    obtain ⟨g2,o2,had2,e0,e1,e2,e3,e4,e5⟩:=ks_some H1.out.ks htn
    cases had2
    have HPN:=Lib.hid (show P = if isP tn HH then ⟨t,3,p⟩ else ⟨t,4,p⟩ by
     rw [hP,htn]
     try rfl)
    obtain ⟨sn,hsn⟩ : ∃ sn,sn = isP tn HH:=⟨_,rfl⟩
    have kn:=fun W' => esign_any tn HH W'
    rw [← hsn] at HPN kn
    have KN:=Lib.hid kn
    have w1 : ((i : Int) + 1 < (m.body.length : Int)):=by omega
    have w2 : (0 : Int) ≤ (i : Int) + 1:=by omega
    have w3 : IntKind.i64.wrap ((i : Int) + 1) = (i : Int) + 1:=IntWalk.i64_in _ (by omega)
    have hgl:=lt_of_cell e0
    obtain ⟨kd,tx,fl,fr,en,bl⟩:=tn
    dsimp only at e0 e1 e2 e3 e4 e5
    dsimp only [kAgg] at KN
    clear htn hsn kn hP hnx
    go_wp2_with fail
    refine (KN.out _).mono ?_
    rintro e W3 ⟨rfl,hb3⟩
    have h3:=H1.out.call hb3
    have H3:=Lib.hid h3
    obtain ⟨d0'',d1'',d2'',d3'',d4'',d5''⟩:=box6_cells h3.k7
    obtain ⟨s0',s1',s2',s3',s4',s5',s6',s7',sf'⟩:=box8_cells h3.k6
    clear h3 hb3
    cases sn with
    | true =>
     go_wp2_with fail
     rw [show P = ⟨t,3,p⟩ from HPN.out]
     exact pc_end H3.out 3 p _ rfl _ rfl
    | false =>
     go_wp2_with fail
     refine wp_sec 6 pieceBody rfl ?_
     conv => arg 2; whnf
     go_wp2_with fail
     conv => arg 2; whnf
     go_wp2_with fail
     rw [show P = ⟨t,4,p⟩ from HPN.out]
     exact pc_end H3.out 4 p _ rfl _ rfl
   ·have HPN:=Lib.hid (show P = ⟨t,4,p⟩ by
     rw [hP,List.getElem?_eq_none hnx]
     try rfl)
    have w1 : ¬ ((i : Int) + 1 < (m.body.length : Int)):=by omega
    have w1b : decide ((i : Int) + 1 < (m.body.length : Int)) = false:=decide_eq_false w1
    have w3 : IntKind.i64.wrap ((i : Int) + 1) = (i : Int) + 1:=IntWalk.i64_in _ (by omega)
    clear hP hnx
    go_wp2_with fail
    refine wp_sec 6 pieceBody rfl ?_
    conv => arg 2; whnf
    go_wp2_with fail
    conv => arg 2; whnf
    go_wp2_with fail
    rw [show P = ⟨t,4,p⟩ from HPN.out]
    exact pc_end H1.out 4 p _ rfl _ rfl
  ·obtain ⟨j,rfl⟩ : ∃ j,i = j + 1:=⟨i - 1,by omega⟩
   rw [if_neg (show ¬ (j + 1 = 0) by omega),Nat.add_sub_cancel] at hP
   have hj : j < m.body.length:=by omega
   obtain ⟨tp,htp⟩ : ∃ tp,m.body[j]? = some tp:=⟨_,List.getElem?_eq_getElem hj⟩
   obtain ⟨g1,o1,had1,f0,f1,f2,f3,f4,f5⟩:=ks_some H1.out.ks htp
   subst had1
   rw [htp,show Ep.isIn (some tp) HH = isP tp HH from rfl] at hP
   obtain ⟨sp,hsp⟩ : ∃ sp,sp = isP tp HH:=⟨_,rfl⟩
   have kp:=fun W' => esign_any tp HH W'
   rw [← hsp] at hP kp
   have KP:=Lib.hid kp
   have g3 : (0 : Int) < (j : Int) + 1:=by omega
   have g4 : ((j : Int) + 1 - 1) = j:=by omega
   have g5 : IntKind.i64.wrap ((j : Int) + 1 - 1) = j:=by rw [g4]; exact IntWalk.i64_in _ (by omega)
   have g6 : (j : Int) < (m.body.length : Int):=by omega
   have g7 : (0 : Int) ≤ j:=by omega
   have g8 : IntKind.i64.wrap (j : Int) = j:=IntWalk.i64_in _ (by omega)
   have hgl1:=lt_of_cell f0
   have HPQ:=Lib.hid hP
   obtain ⟨kdp,txp,flp,frp,enp,blp⟩:=tp
   dsimp only at f0 f1 f2 f3 f4 f5
   dsimp only [kAgg] at KP
   clear htp hsp kp hP hj
   obtain ⟨nn,hnn⟩ : ∃ nn,nn = m.body.length:=⟨_,rfl⟩
   rw [← hnn] at g6 c4' hi hl
   have HNN:=Lib.hid hnn
   clear hnn
   go_wp2_with fail
   refine (KP.out _).mono ?_
   rintro e W2 ⟨rfl,hb2⟩
   have h2:=H1.out.call hb2
   have H2:=Lib.hid h2
   obtain ⟨c0'',c1'',c2'',c3'',c4''⟩:=mac_cells h2.k3
   obtain ⟨d0',d1',d2',d3',d4',d5'⟩:=box6_cells h2.k7
   obtain ⟨s0,s1,s2,s3,s4,s5,s6,s7,sf⟩:=box8_cells h2.k6
   clear h2 hb2 f0 f1 f2 f3 f4 f5 c0' c1' c2' c3' c4'
   have hnn:=HNN.out
   subst hnn
   cases sp with
   | true =>
    go_wp2_with fail
    rw [show P = ⟨t,3,p⟩ from HPQ.out]
    exact pc_end H2.out 3 p _ rfl _ rfl
   | false =>
    have hP:=HPQ.out
    rw [Bool.false_or] at hP
    clear KP g3 g4 g5 g6 g7 g8
    rcases Nat.lt_or_ge ((j + 1) + 1) m.body.length with hnx | hnx
    ·obtain ⟨tn,htn⟩ : ∃ tn,m.body[(j + 1) + 1]? = some tn:=⟨_,List.getElem?_eq_getElem hnx⟩
     obtain ⟨g2,o2,had2,e0,e1,e2,e3,e4,e5⟩:=ks_some H2.out.ks htn
     cases had2
     have HPN:=Lib.hid (show P = if isP tn HH then ⟨t,3,p⟩ else ⟨t,4,p⟩ by
      rw [hP,htn]
      try rfl)
     obtain ⟨sn,hsn⟩ : ∃ sn,sn = isP tn HH:=⟨_,rfl⟩
     have kn:=fun W' => esign_any tn HH W'
     rw [← hsn] at HPN kn
     have KN:=Lib.hid kn
     have w1 : (((j : Int) + 1) + 1 < (m.body.length : Int)):=by omega
     have w2 : (0 : Int) ≤ ((j : Int) + 1) + 1:=by omega
     have w3 : IntKind.i64.wrap (((j : Int) + 1) + 1) = ((j : Int) + 1) + 1:=IntWalk.i64_in _ (by omega)
     have hgl:=lt_of_cell e0
     obtain ⟨kd,tx,fl,fr,en,bl⟩:=tn
     dsimp only at e0 e1 e2 e3 e4 e5
     dsimp only [kAgg] at KN
     clear htn hsn kn hP hnx
     go_wp2_with fail
     refine (KN.out _).mono ?_
     rintro e W3 ⟨rfl,hb3⟩
     have h3:=H2.out.call hb3
     have H3:=Lib.hid h3
     obtain ⟨d0'',d1'',d2'',d3'',d4'',d5''⟩:=box6_cells h3.k7
     obtain ⟨s0',s1',s2',s3',s4',s5',s6',s7',sf'⟩:=box8_cells h3.k6
     clear h3 hb3
     cases sn with
     | true =>
      go_wp2_with fail
      rw [show P = ⟨t,3,p⟩ from HPN.out]
      exact pc_end H3.out 3 p _ rfl _ rfl
     | false =>
      go_wp2_with fail
      refine wp_sec 6 pieceBody rfl ?_
      conv => arg 2; whnf
      go_wp2_with fail
      conv => arg 2; whnf
      go_wp2_with fail
      rw [show P = ⟨t,4,p⟩ from HPN.out]
      exact pc_end H3.out 4 p _ rfl _ rfl
    ·have HPN:=Lib.hid (show P = ⟨t,4,p⟩ by
      rw [hP,List.getElem?_eq_none hnx]
      try rfl)
     have w1 : ¬ (((j : Int) + 1) + 1 < (m.body.length : Int)):=by omega
     have w1b : decide (((j : Int) + 1) + 1 < (m.body.length : Int)) = false:=decide_eq_false w1
     have w3 : IntKind.i64.wrap (((j : Int) + 1) + 1) = ((j : Int) + 1) + 1:=IntWalk.i64_in _ (by omega)
     clear hP hnx
     go_wp2_with fail
     refine wp_sec 6 pieceBody rfl ?_
     conv => arg 2; whnf
     go_wp2_with fail
     conv => arg 2; whnf
     go_wp2_with fail
     rw [show P = ⟨t,4,p⟩ from HPN.out]
     exact pc_end H2.out 4 p _ rfl _ rfl
end
section
open Go.RowKit Go.Shelf Go.WideMaps
open Mx (M VA isP HH HS)
theorem epiece_any (v : Value) (m : M) (mb N i : Nat) (w : World) (hv : MacV w v m) (hm : PMap w mb N (Ep.parIx m)) (hi : i < m.body.length) (hx : ∀ u ∈ m.body,u.text.size ≤ 1000000000) (hl : m.body.length ≤ 1000000) :
  Calls Tryz.prog 270 #[v, .map (some mb), .int .i64 i] w fun e w' => e = .returned (pcV (Ep.pieceOf m i)) ∧ Below w.heap.size w w':=by
 obtain ⟨pv,bv,rfl,hp,hb⟩:=hv
 obtain ⟨ad,cap,rfl,hc1,hc2, -⟩:=id hb
 obtain ⟨t,ht⟩ : ∃ t,m.body[i]? = some t:=⟨_,List.getElem?_eq_getElem hi⟩
 have hP0 : Ep.pieceOf m i = Ep.pieceAt m (if i = 0 then none else m.body[i - 1]?) t m.body[i + 1]?:=by unfold Ep.pieceOf; rw [ht]
 have TL:=Lib.hid (fun (W : World) (h : PcB w W w.heap.size m.name m.fn pv m.va ad m.body.length cap m.body t) (hmm : PMap W mb N (Ep.parIx m)) (h1 : isP t HH = false) (h2 : (isP t HS && (Ep.parIn m m.body[i + 1]?).isSome) = false) (c0 c4 c5 c8 c9 c10 c11 c12 c13 c14 c15 c16 c17 c18 c19 c20 c21 c22 c23 c24 c25 c26 c27 c28 c29 c30 c31 c32 c33 c34 c35 c36 c37 c38 c39 c40 c41 c42 c43 c44 c45 c46 c47 c48 c49 c50 c51 c52 c53 c54 c55 c56 c57 c58 c59 c60 c61 c62 c63 c64 c65 c66 c67 c68 c69 c70 c71 c72 c73 c74 c75 c76 c77 c78 c79 c80 c81 c82 c83 c84 c85 c86 c87 c88 c89 : Value) =>
  pc_tail4 w W w.heap.size mb N i m pv ad cap t c0 c4 c5 c8 c9 c10 c11 c12 c13 c14 c15 c16 c17 c18 c19 c20 c21 c22 c23 c24 c25 c26 c27 c28 c29 c30 c31 c32 c33 c34 c35 c36 c37 c38 c39 c40 c41 c42 c43 c44 c45 c46 c47 c48 c49 c50 c51 c52 c53 c54 c55 c56 c57 c58 c59 c60 c61 c62 c63 c64 c65 c66 c67 c68 c69 c70 c71 c72 c73 c74 c75 c76 c77 c78 c79 c80 c81 c82 c83 c84 c85 c86 c87 c88 c89 h hmm ht hx hl h1 h2)
 obtain ⟨g,o,had,d0,d1,d2,d3,d4,d5⟩:=ks_some hb ht
 subst had
 have hgl:=lt_of_cell d0
 have b3:=heap_alloc2_old w (.cells #[.string m.name, .bool m.fn,pv, .bool m.va, .slice (some ⟨g,o,none⟩) m.body.length cap] 168) (.cells #[.int .i64 0, .string ⟨#[]⟩, .int .i64 0, .int .i64 0, .int .i64 0, .bool false, .int .i64 0, .int .i64 0] 390)
 have b6:=heap_alloc2_new w (.cells #[.string m.name, .bool m.fn,pv, .bool m.va, .slice (some ⟨g,o,none⟩) m.body.length cap] 168) (.cells #[.int .i64 0, .string ⟨#[]⟩, .int .i64 0, .int .i64 0, .int .i64 0, .bool false, .int .i64 0, .int .i64 0] 390)
 have hB0 : Below w.heap.size w ((w.alloc (.cells #[.string m.name, .bool m.fn,pv, .bool m.va, .slice (some ⟨g,o,none⟩) m.body.length cap] 168)).alloc (.cells #[.int .i64 0, .string ⟨#[]⟩, .int .i64 0, .int .i64 0, .int .i64 0, .bool false, .int .i64 0, .int .i64 0] 390)):=((Below.refl _ w).alloc (Nat.le_refl _) _).alloc (by simp) _
 have hsz : ((w.alloc (.cells #[.string m.name, .bool m.fn,pv, .bool m.va, .slice (some ⟨g,o,none⟩) m.body.length cap] 168)).alloc (.cells #[.int .i64 0, .string ⟨#[]⟩, .int .i64 0, .int .i64 0, .int .i64 0, .bool false, .int .i64 0, .int .i64 0] 390)).heap.size = w.heap.size + 2:=by simp
 have y1 : (0 : Int) ≤ i:=by omega
 have y2 : (i : Int) < (m.body.length : Int):=by omega
 go_enter Tryz.func270,Tryz.ntmps270
 show Code.wp Tryz.prog (secs 0 pieceBody) _ _ _
 refine wp_sec 0 pieceBody rfl ?_
 conv => arg 2; whnf
 go_wp2_with fail
 generalize ((w.alloc (.cells #[.string m.name, .bool m.fn,pv, .bool m.va, .slice (some ⟨g,o,none⟩) m.body.length cap] 168)).alloc (.cells #[.int .i64 0, .string ⟨#[]⟩, .int .i64 0, .int .i64 0, .int .i64 0, .bool false, .int .i64 0, .int .i64 0] 390)) = W0 at b3 b6 hB0 hsz ⊢
 have hks:=hb.below hB0
 have hm0:=hm.below hB0
 obtain ⟨g',o',had,d0',d1',d2',d3',d4',d5'⟩:=ks_some hks ht
 cases had
 obtain ⟨c0,c1,c2,c3,c4⟩:=mac_cells b3
 have k7:=heap_alloc_new W0 (.cells #[.int .i64 t.kind, .string t.text, .int .i64 t.file, .int .i64 t.fr, .int .i64 t.en, .bool t.bl] 63)
 have hA : Below W0.heap.size W0 (W0.alloc (.cells #[.int .i64 t.kind, .string t.text, .int .i64 t.file, .int .i64 t.fr, .int .i64 t.en, .bool t.bl] 63)):=(Below.refl _ _).alloc (Nat.le_refl _) _
 rw [hsz] at k7
 have hpcb : PcB w (W0.alloc (.cells #[.int .i64 t.kind, .string t.text, .int .i64 t.file, .int .i64 t.fr, .int .i64 t.en, .bool t.bl] 63)) w.heap.size m.name m.fn pv m.va (some ⟨g,o,none⟩) m.body.length cap m.body t :=
  ⟨(hA.block _ (lt_of_heap b3)).trans b3,(hA.block _ (lt_of_heap b6)).trans b6,k7,hks.below hA,Below.then hB0 hA,Nat.le_refl _⟩
 have hm1:=hm0.below hA
 have HPCB:=Lib.hid hpcb
 have HM1:=Lib.hid hm1
 have HP0:=Lib.hid hP0
 have HX:=Lib.hid hx
 have HT:=Lib.hid ht
 have HSZ:=Lib.hid hsz
 clear hp hb hm d0 d1 d2 d3 d4 d5 b3 b6 hB0 hks hm0 k7 hpcb hm1 hP0 hx ht hA hc1 hc2
 refine wp_sec 1 pieceBody rfl ?_
 conv => arg 2; whnf
 go_wp2_with fail
 generalize (W0.alloc (.cells #[.int .i64 t.kind, .string t.text, .int .i64 t.file, .int .i64 t.fr, .int .i64 t.en, .bool t.bl] 63)) = W1 at HPCB HM1 ⊢
 clear d0' d1' d2' d3' d4' d5' c0 c1 c2 c3 c4 hsz
 obtain ⟨x0,x1,x2,x3,x4,x5⟩:=box6_cells HPCB.out.k7
 obtain ⟨a1,ha1⟩ : ∃ a1,a1 = isP t HH:=⟨_,rfl⟩
 have k1:=fun W' => esign_any t HH W'
 rw [← ha1] at k1
 have K1:=Lib.hid k1
 have HA1:=Lib.hid ha1
 clear k1 ha1
 refine wp_sec 2 pieceBody rfl ?_
 conv => arg 2; whnf
 go_wp2_with fail
 refine (K1.out _).mono ?_
 rintro e W2 ⟨rfl,hb2⟩
 have h2:=HPCB.out.call hb2
 have hm2:=HM1.out.below hb2
 obtain ⟨c0,c1,c2,c3,c4⟩:=mac_cells h2.k3
 obtain ⟨d0,d1,d2,d3,d4,d5⟩:=box6_cells h2.k7
 obtain ⟨s0,s1,s2,s3,s4,s5,s6,s7,sf⟩:=box8_cells h2.k6
 have H2:=Lib.hid h2
 have HM2:=Lib.hid hm2
 clear x0 x1 x2 x3 x4 x5 h2 hm2 hb2
 cases a1 with
 | true =>
  go_wp2_with fail
  rw [HP0.out,show Ep.pieceAt m (if i = 0 then none else m.body[i - 1]?) t m.body[i + 1]? = ⟨t,1,0⟩ by unfold Ep.pieceAt; rw [← HA1.out]; rfl]
  exact pc_end H2.out 1 0 _ rfl _ rfl
 | false =>
  go_wp2_with fail
  obtain ⟨a2,ha2⟩ : ∃ a2,a2 = isP t HS:=⟨_,rfl⟩
  have k2:=fun W' => esign_any t HS W'
  rw [← ha2] at k2
  have K2:=Lib.hid k2
  have HA2:=Lib.hid ha2
  clear k2 ha2
  refine wp_sec 3 pieceBody rfl ?_
  conv => arg 2; whnf
  go_wp2_with fail
  refine (K2.out _).mono ?_
  rintro e W3 ⟨rfl,hb3⟩
  have h3:=H2.out.call hb3
  have hm3:=HM2.out.below hb3
  obtain ⟨c0',c1',c2',c3',c4'⟩:=mac_cells h3.k3
  obtain ⟨d0',d1',d2',d3',d4',d5'⟩:=box6_cells h3.k7
  obtain ⟨s0',s1',s2',s3',s4',s5',s6',s7',sf'⟩:=box8_cells h3.k6
  have H3:=Lib.hid h3
  have HM3:=Lib.hid hm3
  clear c0 c1 c2 c3 c4 d0 d1 d2 d3 d4 d5 s0 s1 s2 s3 s4 s5 s6 s7 sf h3 hm3 hb3
  cases a2 with
  | false =>
   go_wp2_with fail
   exact TL.out W3 H3.out HM3.out HA1.out.symm (by rw [← HA2.out]; rfl) _ _ _ _ _ _ _ _ _ _ _ _ _ _ _ _ _ _ _ _ _ _ _ _ _ _ _ _ _ _ _ _ _ _ _ _ _ _ _ _ _ _ _ _ _ _ _ _ _ _ _ _ _ _ _ _ _ _ _ _ _ _ _ _ _ _ _ _ _ _ _ _ _ _ _ _ _ _ _ _ _ _ _ _ _
  | true =>
   have w3 : IntKind.i64.wrap ((i : Int) + 1) = (i : Int) + 1:=IntWalk.i64_in _ (by omega)
   have w2 : (0 : Int) ≤ (i : Int) + 1:=by omega
   rcases Nat.lt_or_ge (i + 1) m.body.length with hnx | hnx
   ·obtain ⟨tn,htn⟩ : ∃ tn,m.body[i + 1]? = some tn:=⟨_,List.getElem?_eq_getElem hnx⟩
    obtain ⟨g2,o2,had2,e0,e1,e2,e3,e4,e5⟩:=ks_some H3.out.ks htn
    cases had2
    have hgl2:=lt_of_cell e0
    have w1 : ((i : Int) + 1 < (m.body.length : Int)):=by omega
    have kp:=fun W' h' => eparamOf_any tn mb N (Ep.parIx m) W' h' (HX.out tn (List.mem_of_getElem? htn))
    obtain ⟨q,hq⟩ : ∃ q,q = ((Ep.parIx m tn.text).isSome && tn.kind == 1):=⟨_,rfl⟩
    obtain ⟨p,hp⟩ : ∃ p,p = (Ep.parIx m tn.text).getD 0:=⟨_,rfl⟩
    rw [← hq,← hp] at kp
    have hpo : Ep.parIn m m.body[i + 1]? = if q then some p else none:=by
     rw [htn,hq,hp]
     show Ep.parOf m tn = _
     unfold Ep.parOf
     cases hk : (tn.kind == 1) with
     | false => simp
     | true => cases Ep.parIx m tn.text <;> simp
    have HPO:=Lib.hid hpo
    have KP:=Lib.hid kp
    obtain ⟨kd,tx,fl,fr,en,bl⟩:=tn
    dsimp only at e0 e1 e2 e3 e4 e5
    dsimp only [kAgg] at KP
    clear htn hq hp hpo kp
    go_wp2_with fail
    refine (KP.out _ HM3.out).mono ?_
    rintro e W4 ⟨rfl,hb4⟩
    have h4:=H3.out.call hb4
    have hm4:=HM3.out.below hb4
    obtain ⟨r0,r1,r2,r3,r4,r5⟩:=box6_cells h4.k7
    obtain ⟨q0,q1,q2,q3,q4,q5,q6,q7,qf⟩:=box8_cells h4.k6
    have H4:=Lib.hid h4
    have HM4:=Lib.hid hm4
    clear c0' c1' c2' c3' c4' d0' d1' d2' d3' d4' d5' s0' s1' s2' s3' s4' s5' s6' s7' sf' e0 e1 e2 e3 e4 e5 h4 hm4 hb4
    cases q with
    | true =>
     go_wp2_with fail
     rw [HP0.out,show Ep.pieceAt m (if i = 0 then none else m.body[i - 1]?) t m.body[i + 1]? = ⟨t,2,p⟩ by
      unfold Ep.pieceAt; rw [← HA1.out,← HA2.out,HPO.out]; rfl]
     exact pc_end H4.out 2 p _ rfl _ rfl
    | false =>
     go_wp2_with fail
     exact TL.out W4 H4.out HM4.out HA1.out.symm (by rw [HPO.out]; simp) _ _ _ _ _ _ _ _ _ _ _ _ _ _ _ _ _ _ _ _ _ _ _ _ _ _ _ _ _ _ _ _ _ _ _ _ _ _ _ _ _ _ _ _ _ _ _ _ _ _ _ _ _ _ _ _ _ _ _ _ _ _ _ _ _ _ _ _ _ _ _ _ _ _ _ _ _ _ _ _ _ _ _ _ _
   ·have w1 : ¬ ((i : Int) + 1 < (m.body.length : Int)):=by omega
    have w1b : decide ((i : Int) + 1 < (m.body.length : Int)) = false:=decide_eq_false w1
    have HNO:=Lib.hid (show (isP t HS && (Ep.parIn m m.body[i + 1]?).isSome) = false by rw [List.getElem?_eq_none hnx]; simp [Ep.parIn])
    clear hnx
    go_wp2_with fail
    exact TL.out W3 H3.out HM3.out HA1.out.symm HNO.out _ _ _ _ _ _ _ _ _ _ _ _ _ _ _ _ _ _ _ _ _ _ _ _ _ _ _ _ _ _ _ _ _ _ _ _ _ _ _ _ _ _ _ _ _ _ _ _ _ _ _ _ _ _ _ _ _ _ _ _ _ _ _ _ _ _ _ _ _ _ _ _ _ _ _ _ _ _ _ _ _ _ _ _ _
end
section
open Go.RowKit Go.Shelf Go.WideMaps
open Mx (M)
theorem lastIx_lt (s : ByteArray) : ∀ (l : List ByteArray) (i p : Nat),Ep.lastIx s l i = some p → p < i + l.length
 | [],i,p,h => by cases h
 | a :: r,i,p,h => by
  rw [Ep.lastIx] at h
  split at h
  ·rename_i j hj
   injection h with h
   subst h
   have:=lastIx_lt s r (i + 1) j hj
   simp; omega
  ·split at h
   ·injection h with h; subst h; simp
   ·cases h
theorem parIx_le {m : M} {s : ByteArray} {p : Nat} (h : Ep.parIx m s = some p) : p ≤ m.ps.length:=by
 unfold Ep.parIx at h
 split at h
 ·split at h
  ·injection h with h; omega
  ·have:=lastIx_lt _ _ _ _ h; omega
 ·cases h
theorem parOf_le {m : M} {t : K} {p : Nat} (h : Ep.parOf m t = some p) : p ≤ m.ps.length:=by
 unfold Ep.parOf at h
 split at h
 ·exact parIx_le h
 ·cases h
theorem pieceOf_le (m : M) (i : Nat) : (Ep.pieceOf m i).par ≤ m.ps.length ∧ (Ep.pieceOf m i).way ≤ 4:=by
 unfold Ep.pieceOf
 split
 ·exact ⟨Nat.zero_le _,Nat.zero_le _⟩
 ·rename_i t _
  unfold Ep.pieceAt
  split
  ·exact ⟨Nat.zero_le _,by show 1 ≤ 4; omega⟩
  ·split
   ·refine ⟨?_,by show 2 ≤ 4; omega⟩
    dsimp only
    cases hp : Ep.parIn m m.body[i + 1]? with
    | none => exact Nat.zero_le _
    | some p =>
     unfold Ep.parIn at hp
     split at hp
     ·exact parOf_le hp
     ·cases hp
   ·cases hp : Ep.parOf m t with
    | none => exact ⟨Nat.zero_le _,Nat.zero_le _⟩
    | some p =>
     dsimp only
     generalize (Ep.isIn (if i = 0 then none else m.body[i - 1]?) Mx.HH || Ep.isIn m.body[i + 1]? Mx.HH) = c
     cases c
     ·exact ⟨parOf_le hp,by show 4 ≤ 4; omega⟩
     ·exact ⟨parOf_le hp,by show 3 ≤ 4; omega⟩
theorem uses_snoc (w : Nat) (P : List Ep.Pc) (p : Ep.Pc) (i : Nat) : Ep.uses w (P ++ [p]) i = (Ep.uses w P i || (p.way == w && p.par == i)):=by
 simp [Ep.uses]
def PlSt (m : M) (i : Nat) (P : List Ep.Pc) : Prop:=P.length ≤ i ∧ ∃ f,m.body.length ≤ i + f ∧ Ep.pieces m = P ++ Ep.pcs m f i
theorem plSt_start (m : M) : PlSt m 0 []:=⟨Nat.le_refl _,m.body.length,by omega,rfl⟩
theorem plSt_step {m : M} {i : Nat} {P : List Ep.Pc} (h : PlSt m i P) (hi : i < m.body.length) : PlSt m (if (Ep.pieceOf m i).way = 2 then i + 2 else i + 1) (P ++ [Ep.pieceOf m i]):=by
 obtain ⟨h1,f,h2,h3⟩:=h
 refine ⟨by rw [List.length_append,List.length_singleton]; split <;> omega,?_⟩
 cases f with
 | zero => omega
 | succ f =>
  refine ⟨f,by split <;> omega,?_⟩
  rw [h3,Ep.pcs,if_pos hi,List.append_assoc,List.singleton_append]
theorem plSt_end {m : M} {i : Nat} {P : List Ep.Pc} (h : PlSt m i P) (hi : m.body.length ≤ i) : P = Ep.pieces m:=by
 obtain ⟨_,f,_,h3⟩:=h
 rw [h3]
 cases f with
 | zero => simp [Ep.pcs]
 | succ f => rw [Ep.pcs,if_neg (by omega),List.append_nil]
def pcCells1 (p : Ep.Pc) : List Value:=[.int .i64 p.t.kind, .string p.t.text, .int .i64 p.t.file, .int .i64 p.t.fr, .int .i64 p.t.en, .bool p.t.bl, .int .i64 (p.way : Int), .int .i64 (p.par : Int)]
def pcCells : List Ep.Pc → List Value
 | [] => []
 | p :: r => pcCells1 p ++ pcCells r
theorem pcCells_append (a b : List Ep.Pc) : pcCells (a ++ b) = pcCells a ++ pcCells b:=by
 induction a with
 | nil => rfl
 | cons x r ih => simp [pcCells,ih]
theorem pcCells_get (a : List Ep.Pc) : ∀ i p,a[i]? = some p → ∀ j v,(pcCells1 p)[j]? = some v → (pcCells a)[i * 8 + j]? = some v:=by
 induction a with
 | nil => intro i x h; simp at h
 | cons y r ih =>
  intro i t h j v hj
  have h8 : (pcCells1 y).length = 8:=rfl
  cases i with
  | zero =>
   simp at h; subst h
   have hlt:=(List.getElem?_eq_some_iff.1 hj).1
   rw [pcCells,List.getElem?_append_left (by omega),Nat.zero_mul,Nat.zero_add]
   exact hj
  | succ i =>
   simp at h
   rw [pcCells,List.getElem?_append_right (by omega),h8,show (i + 1) * 8 + j - 8 = i * 8 + j by omega]
   exact ih i t h j v hj
def usCells (k : Nat) (P : List Ep.Pc) : List Value:=(List.range (k * 2)).map fun j => .bool (if j % 2 = 0 then Ep.uses 4 P (j / 2) else Ep.uses 2 P (j / 2))
theorem usCells_get (k : Nat) (P : List Ep.Pc) (j : Nat) (hj : j < k * 2) : (usCells k P)[j]? = some (.bool (if j % 2 = 0 then Ep.uses 4 P (j / 2) else Ep.uses 2 P (j / 2))):=by
 simp [usCells,hj]
theorem usCells_len (k : Nat) (P : List Ep.Pc) : (usCells k P).length = k * 2:=by simp [usCells]
theorem usCells_made (k : Nat) : (madeCells #[.bool false, .bool false] (k * 2)).toList = usCells k []:=by
 apply List.ext_getElem?
 intro j
 by_cases hj : j < k * 2
 ·rw [usCells_get k [] j hj]
  have : j % 2 < 2:=Nat.mod_lt _ (by omega)
  rcases (by omega : j % 2 = 0 ∨ j % 2 = 1) with h | h
  ·simp [madeCells,hj,h,Ep.uses]
  ·simp [madeCells,hj,h,Ep.uses]
 ·rw [List.getElem?_eq_none (by simp [madeCells]; omega),List.getElem?_eq_none (by rw [usCells_len]; omega)]
theorem usCells_same (k : Nat) (P : List Ep.Pc) (p : Ep.Pc) (h2 : p.way ≠ 2) (h4 : p.way ≠ 4) : usCells k (P ++ [p]) = usCells k P:=by
 apply List.ext_getElem?
 intro j
 by_cases hj : j < k * 2
 ·rw [usCells_get _ _ j hj,usCells_get _ _ j hj,uses_snoc,uses_snoc]
  have e2 : (p.way == 2) = false:=by simpa using h2
  have e4 : (p.way == 4) = false:=by simpa using h4
  rw [e2,e4]
  simp
 ·rw [List.getElem?_eq_none (by rw [usCells_len]; omega),List.getElem?_eq_none (by rw [usCells_len]; omega)]
theorem usCells_set (k : Nat) (P : List Ep.Pc) (p : Ep.Pc) (o : Nat) (hw : (p.way = 4 ∧ o = 0) ∨ (p.way = 2 ∧ o = 1)) : (usCells k P).set (p.par * 2 + o) (.bool true) = usCells k (P ++ [p]):=by
 apply List.ext_getElem?
 intro j
 by_cases hj : j < k * 2
 ·rw [usCells_get _ _ j hj,List.getElem?_set,uses_snoc,uses_snoc]
  by_cases e : p.par * 2 + o = j
  ·subst e
   rw [if_pos rfl,if_pos (by rw [usCells_len]; exact hj)]
   rcases hw with ⟨h,rfl⟩ | ⟨h,rfl⟩
   ·rw [h]; simp
   ·rw [h]
    have e1 : (p.par * 2 + 1) % 2 = 1:=by omega
    have e2 : (p.par * 2 + 1) / 2 = p.par:=by omega
    simp [e1,e2]
  ·rw [if_neg e,usCells_get _ _ j hj]
   congr 2
   rcases hw with ⟨h,rfl⟩ | ⟨h,rfl⟩
   ·rw [h]
    by_cases hm : j % 2 = 0
    ·rw [if_pos hm,if_pos hm]
     have : (p.par == j / 2) = false:=by simp; omega
     rw [this]; simp
    ·rw [if_neg hm,if_neg hm]; simp
   ·rw [h]
    by_cases hm : j % 2 = 0
    ·rw [if_pos hm,if_pos hm]; simp
    ·rw [if_neg hm,if_neg hm]
     have : (p.par == j / 2) = false:=by simp; omega
     rw [this]; simp
 ·rw [List.getElem?_eq_none (by rw [List.length_set,usCells_len]; omega),List.getElem?_eq_none (by rw [usCells_len]; omega)]
structure PlW (W : World) (n0 pb num : Nat) (sv uv : Value) (P U : List Ep.Pc) (k : Nat) : Prop where
 blk : W.heap[pb]? = some (.cells #[.int .i64 (num : Int),sv,uv] 338 (0,0))
 hb : n0 ≤ pb
 srow : W.ownsRow n0 390 8 sv P.length (pcCells P)
 urow : W.ownsRow n0 386 2 uv k (usCells k U)
theorem infoPc : (Tryz.prog.info? 390).map (fun i => (i.zero,i.size,i.bytes)) = some (some (.agg #[.int .i64 0, .string ByteArray.empty, .int .i64 0, .int .i64 0, .int .i64 0, .bool false, .int .i64 0, .int .i64 0]),8,72):=by kernel_rfl
theorem infoUse : (Tryz.prog.info? 386).map (fun i => (i.zero,i.size,i.bytes)) = some (some (.agg #[.bool false, .bool false]),2,2):=by kernel_rfl
theorem row_heapK {W W' : World} {B e sz n : Nat} {v : Value} {cs : List Value} (h : W.ownsRow B e sz v n cs) (hk : Kept e W W') : W'.ownsRow B e sz v n cs:=by
 refine ⟨h.1,?_⟩
 rcases h.2 with h' | ⟨g,cap,cur,h',h1,h2,h3⟩
 ·exact .inl h'
 ·exact .inr ⟨g,cap,cur,h',h1,hk g _ _ h2,h3⟩
theorem PlW.keep {W W' : World} {n0 pb num : Nat} {sv uv : Value} {P U : List Ep.Pc} {k : Nat} (h : PlW W n0 pb num sv uv P U k) (h1 : Kept 338 W W') (h2 : Kept 390 W W') (h3 : Kept 386 W W') : PlW W' n0 pb num sv uv P U k :=
 ⟨h1 _ _ _ h.blk,h.hb,row_heapK h.srow h2,row_heapK h.urow h3⟩
theorem PlW.below {W W' : World} {n0 pb num : Nat} {sv uv : Value} {P U : List Ep.Pc} {k : Nat} (h : PlW W n0 pb num sv uv P U k) (hb : Below W.heap.size W W') : PlW W' n0 pb num sv uv P U k:=h.keep (Kept.of_below hb _) (Kept.of_below hb _) (Kept.of_below hb _)
end
end Go.Proofs.YthekfpgegiffoaaGreatDoor
