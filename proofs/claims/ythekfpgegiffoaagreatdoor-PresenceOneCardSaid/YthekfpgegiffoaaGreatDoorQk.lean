/- What is proved: what planOf tells. (and what stands with it) -/
import Derived.Test.YthekfpgegiffoaaGreatDoorQj
import Derived.Deep.RegionLaw
import Derived.Test.YthekfpgegiffoaaGreatDoorQf
import Derived.LaidEqlPtr
import Derived.MapKept
import Derived.ChangeMaps5
import Derived.Test.YthekfpgegiffoaaGreatDoorQh
import Derived.Test.YthekfpgegiffoaaGreatDoorQi
set_option linter.unusedSimpArgs false
set_option linter.unusedVariables false
set_option maxHeartbeats 16000000
set_option maxRecDepth 100000
namespace Go.Proofs.YthekfpgegiffoaaGreatDoor
section
open Go.RowKit Go.Shelf Go.WideMaps
open Mx (M)
theorem PMap.block {W W' : World} {mb N : Nat} {f : ByteArray → Option Nat} (h : PMap W mb N f) (e : W'.heap[mb]? = W.heap[mb]?) : PMap W' mb N f:=by
 obtain ⟨D,⟨es,clock,hb,r⟩,h2⟩:=h
 exact ⟨D,⟨es,clock,e.trans hb,r⟩,h2⟩
noncomputable def planBody : Code:=Tryz.f248.body.getD .skip
structure PlL (w0 W : World) (n0 pb num : Nat) (uv : Value) (k mb N : Nat) (m : M) (pv : Value) (ad : Option Addr) (cap : Nat) (P U : List Ep.Pc) (sv : Value) : Prop where
 pl : PlW W n0 pb num sv uv P U k
 bx : W.heap[w0.heap.size]? = some (.cells #[.string m.name, .bool m.fn,pv, .bool m.va, .slice ad m.body.length cap] 168 (0,0))
 mp : PMap W mb N (Ep.parIx m)
 bl : Below w0.heap.size w0 W
 hn : w0.heap.size < n0
section
variable {w0 W W' : World} {n0 pb num : Nat} {uv : Value} {k mb N : Nat} {m : M} {pv : Value} {ad : Option Addr} {cap : Nat} {P U : List Ep.Pc} {sv : Value}
theorem PlL.call (h : PlL w0 W n0 pb num uv k mb N m pv ad cap P U sv) (hb : Below W.heap.size W W') : PlL w0 W' n0 pb num uv k mb N m pv ad cap P U sv :=
 ⟨h.pl.below hb,(hb.block _ (lt_of_heap h.bx)).trans h.bx,h.mp.below hb,Below.then h.bl hb,h.hn⟩
theorem row_map {n : Nat} {v : Value} {xs : List Value} {e sz B b : Nat} {es : Array MapEntry} {cl : Nat} (h : W.ownsRow B e sz v n xs) (hg : W.grownBy W' v.ownBlock) (hb : W.heap[b]? = some (.map es cl)) : W'.heap[b]? = W.heap[b]? :=
 hg.block b (lt_of_heap hb) fun e' => by
  rcases h.2 with ⟨h',_⟩ | ⟨g',cap',cur,h',_,h2',_⟩
  ·rw [h'] at e'; cases e'
  ·rw [h'] at e'
   simp only [Value.ownBlock,Option.some.injEq] at e'
   rw [← e',hb] at h2'
   cases h2'
theorem PlL.piece {w2 : World} {tmp : Obj} {p : Ep.Pc} {g c : Nat} (h : PlL w0 W n0 pb num uv k mb N m pv ad cap P U sv) (hown : w2.ownsRow n0 390 8 (.slice (some ⟨g,0,none⟩) (P.length + 1) c) (P.length + 1) (pcCells P ++ pcCells1 p)) (hgrow : ((W.alloc tmp).drew).grownBy w2 sv.ownBlock) :
  PlL w0 (w2.setCell ⟨pb,1,none⟩ (.slice (some ⟨g,0,none⟩) (P.length + 1) c)) n0 pb num uv k mb N m pv ad cap (P ++ [p]) U (.slice (some ⟨g,0,none⟩) (P.length + 1) c):=by
 have hA : Below W.heap.size W ((W.alloc tmp).drew):=((Below.refl _ _).alloc (Nat.le_refl _) _).drew
 have h1:=h.call hA
 generalize (W.alloc tmp).drew = X at hgrow hA h1
 have hr:=h1.pl.srow
 have kP:=row_kept (t:=338) hr hgrow (by decide)
 have kU:=row_kept (t:=386) hr hgrow (by decide)
 have kM:=row_kept (t:=168) hr hgrow (by decide)
 have b2:=kP _ _ _ h1.pl.blk
 have bx:=kM _ _ _ h1.bx
 have mp : PMap w2 mb N (Ep.parIx m):=h1.mp.block (by obtain ⟨D,⟨es,cl,hb,_⟩,_⟩:=h1.mp; exact row_map hr hgrow hb)
 have hn:=h.hn
 have hpb:=h.pl.hb
 refine ⟨⟨by simp [World.setCell,Array.getElem?_modify,b2],hpb,?_,row_heapK (row_heapK h1.pl.urow kU) (Kept.set b2 (by decide))⟩,?_,mp.block (heap_setCell_other _ _ _ _ ?_),?_,hn⟩
 ·rw [pcCells_append,List.length_append]
  refine row_heapK ?_ (Kept.set b2 (by decide))
  have : pcCells [p] = pcCells1 p:=by simp [pcCells]
  rw [this]
  exact hown
 ·exact (heap_setCell_other _ _ _ _ (by show w0.heap.size ≠ pb; omega)).trans bx
 ·obtain ⟨D,⟨es,cl,hb,_⟩,_⟩:=mp
  intro e
  have e : mb = pb:=e
  rw [e,b2] at hb
  cases hb
 ·exact (h1.bl.grown hgrow h1.bl.size (fun j e => by have:=(hr.lt j e).1; omega)).setCell (by show w0.heap.size ≤ pb; omega) _
theorem PlL.use {p : Ep.Pc} {o g c : Nat} (h : PlL w0 W n0 pb num uv k mb N m pv ad cap (P ++ [p]) P sv) (hu : uv = .slice (some ⟨g,0,none⟩) k c) (hw : (p.way = 4 ∧ o = 0) ∨ (p.way = 2 ∧ o = 1)) :
  PlL w0 (W.setCell ⟨g,p.par * 2 + o,none⟩ (.bool true)) n0 pb num uv k mb N m pv ad cap (P ++ [p]) (P ++ [p]) sv:=by
 subst hu
 obtain ⟨cs,hg,hng⟩ : ∃ cs,W.heap[g]? = some (.cells cs 386 (0,0)) ∧ n0 ≤ g:=by
  rcases h.pl.urow.2 with ⟨h',_⟩ | ⟨g',cap',cur,h',h1,h2,_⟩
  ·cases h'
  ·cases h'; exact ⟨_,h2,h1⟩
 have hst:=(h.pl.urow.stored (p.par * 2 + o) (.bool true)).1
 rw [usCells_set k P p o hw] at hst
 have hn:=h.hn
 refine ⟨⟨Kept.set hg (by decide) _ _ _ h.pl.blk,h.pl.hb,row_heapK h.pl.srow (Kept.set hg (by decide)),hst⟩,Kept.set hg (by decide) _ _ _ h.bx,h.mp.block (heap_setCell_other _ _ _ _ ?_),h.bl.setCell (by show w0.heap.size ≤ g; omega) _,hn⟩
 obtain ⟨D,⟨es,cl,hb,_⟩,_⟩:=h.mp
 intro e
 have e : mb = g:=e
 rw [e,hg] at hb
 cases hb
theorem PlL.none {p : Ep.Pc} (h : PlL w0 W n0 pb num uv k mb N m pv ad cap (P ++ [p]) P sv) (h2 : p.way ≠ 2) (h4 : p.way ≠ 4) : PlL w0 W n0 pb num uv k mb N m pv ad cap (P ++ [p]) (P ++ [p]) sv :=
 ⟨⟨h.pl.blk,h.pl.hb,h.pl.srow,by rw [usCells_same k P p h2 h4]; exact h.pl.urow⟩,h.bx,h.mp,h.bl,h.hn⟩
theorem PlL.drew (h : PlL w0 W n0 pb num uv k mb N m pv ad cap P U sv) : PlL w0 W.drew n0 pb num uv k mb N m pv ad cap P U sv:=h.call ((Below.refl _ _).drew)
end
theorem plan_tail3 (w0 W : World) (n0 pb num : Nat) (uv : Value) (k mb N : Nat) (m : M) (pv : Value) (ad : Option Addr) (cap : Nat) (sv0 : Value) (c0 c1 c3 c4 c7 c8 c9 c10 c11 c12 c13 c14 c15 c16 c17 c18 c19 c20 c21 c22 c23 c24 c25 c26 c27 c28 c29 c30 c31 c32 c33 c34 c35 c36 c37 c38 c39 c40 c41 c42 c43 c44 c45 c46 c47 c48 c49 c50 c51 c52 c53 c54 c55 c56 c57 c58 c59 c60 c61 c62 c63 c64 : Value)
  (h : PlL w0 W n0 pb num uv k mb N m pv ad cap [] [] sv0) (hv : MacV w0 (.agg #[.string m.name, .bool m.fn,pv, .bool m.va, .slice ad m.body.length cap]) m) (hx : ∀ u ∈ m.body,u.text.size ≤ 1000000000) (hl : m.body.length ≤ 1000000) (hk : k = m.ps.length + 1) (hps : m.ps.length ≤ 1000000) :
  Code.wp Tryz.prog (secs 3 planBody) (bodyPost Tryz.prog Tryz.f248 (fun e w' => (∃ sv,e = .returned (.pointer (some ⟨pb,0,none⟩)) ∧ PlW w' n0 pb num sv uv (Ep.pieces m) (Ep.pieces m) k) ∧ Below w0.heap.size w0 w')) ⟨#[c0,c1, .pointer (some ⟨w0.heap.size,0,none⟩),c3,c4, .pointer (some ⟨pb,0,none⟩), .map (some mb),c7,c8,c9,c10,c11,c12,c13,c14,c15,c16,c17,c18,c19,c20,c21,c22,c23,c24,c25,c26,c27,c28,c29,c30,c31,c32,c33,c34,c35,c36,c37,c38,c39,c40,c41,c42,c43,c44,c45,c46,c47,c48,c49,c50,c51,c52,c53,c54,c55,c56,c57,c58,c59,c60,c61,c62,c63,c64],[]⟩ W:=by
 obtain ⟨i0,hi,hz0,hz1,hz2⟩:=info_parts infoPc
 obtain ⟨ug,uc,rfl, -, -⟩:=h.pl.urow.form (by omega)
 have H0:=Lib.hid h
 have HV:=Lib.hid hv
 have HX:=Lib.hid hx
 have HK:=Lib.hid hk
 have HI:=Lib.hid hi
 have HZ0:=Lib.hid hz0
 have HZ1:=Lib.hid hz1
 have HZ2:=Lib.hid hz2
 clear h hv hx hk hi hz0 hz1 hz2
 refine wp_sec 3 planBody rfl ?_
 conv => arg 2; whnf
 go_wp2_with fail
 go_loopw [7] (fun a wr => ∃ (i : Nat) (P : List Ep.Pc) (sv : Value),a = .int .i64 i ∧ PlSt m i P ∧ PlL w0 wr n0 pb num (.slice (some ⟨ug,0,none⟩) k uc) k mb N m pv ad cap P P sv ∧ i ≤ 1000001) (fun a _ => m.body.length - (intOf a).toNat)
 case atStart => exact ⟨0,[],sv0,rfl,plSt_start m,H0.out,by omega⟩
 case round =>
  obtain ⟨i,P,sv,rfl,hst,hL,hi1⟩:=hrel
  obtain ⟨c0,c1,c2,c3,c4⟩:=mac_cells hL.bx
  rcases Nat.lt_or_ge i m.body.length with hlt | hge
  ·have kp:=epiece_any _ m mb N i wr (HV.out.below hL.bl) hL.mp hlt HX.out hl
   obtain ⟨p,hp⟩ : ∃ p,p = Ep.pieceOf m i:=⟨_,rfl⟩
   have hst2:=plSt_step hst hlt
   obtain ⟨hp1,hp2⟩:=pieceOf_le m i
   rw [← hp] at kp hst2 hp1 hp2
   have KP:=Lib.hid kp
   have HST2:=Lib.hid hst2
   have HL:=Lib.hid hL
   have x1 : ((i : Int) < (m.body.length : Int)):=by omega
   have hPl : P.length ≤ 1000001:=by have:=hst.1; omega
   clear kp hst2 hL hp hst
   go_wp2_with fail
   refine (KP.out).mono ?_
   rintro e W1 ⟨rfl,hb1⟩
   have hL1:=HL.out.call hb1
   have hL1':=hL1
   obtain ⟨t,way,par⟩:=p
   obtain ⟨kd,tx,fl,fr,en,bl⟩:=t
   dsimp only [pcV] at hp1 hp2 ⊢
   have hA : Below W1.heap.size W1 (W1.alloc (.cells #[.int .i64 kd, .string tx, .int .i64 fl, .int .i64 fr, .int .i64 en, .bool bl, .int .i64 (way : Int), .int .i64 (par : Int)] 390)):=(Below.refl _ _).alloc (Nat.le_refl _) _
   have hL2:=hL1.call hA
   have hbx:=heap_alloc_new W1 (.cells #[.int .i64 kd, .string tx, .int .i64 fl, .int .i64 fr, .int .i64 en, .bool bl, .int .i64 (way : Int), .int .i64 (par : Int)] 390)
   have HL2:=Lib.hid hL2
   clear c0 c1 c2 c3 c4 hL1 hL2 hA hb1
   go_wp2_with fail
   have HSO:=Lib.hid (show ∀ j,sv.ownBlock = some j → j < W1.heap.size from fun j e => (hL1'.pl.srow.lt j e).2)
   clear hL1'
   generalize hB8 : W1.heap.size = B8 at hbx HSO ⊢
   generalize (W1.alloc (.cells #[.int .i64 kd, .string tx, .int .i64 fl, .int .i64 fr, .int .i64 en, .bool bl, .int .i64 (way : Int), .int .i64 (par : Int)] 390)) = W2 at HL2 hbx ⊢
   clear hB8 KP
   obtain ⟨q0,q1,q2,q3,q4,q5,q6,q7, -⟩:=box8_cells hbx
   have y1 : W2.cell? ⟨pb,1,none⟩ = some sv:=(Lib.cell_of_heap HL2.out.pl.blk 1).trans rfl
   have y2 : W2.frozen? ⟨pb,1,none⟩ = false:=by simp [World.frozen?,HL2.out.pl.blk]
   have hpl:=lt_of_cell y1
   have h8l:=lt_of_cell q0
   dsimp only at hpl h8l
   have HC1:=Lib.hid y1
   have HF1:=Lib.hid y2
   have HRW:=Lib.hid HL2.out.pl.srow
   have HOFF:=Lib.hid (show some pb ≠ sv.ownBlock from fun e => by
    rcases HRW.out.2 with ⟨h',_⟩ | ⟨g',cap',cur,h',_,h2',_⟩
    ·rw [h'] at e; cases e
    ·rw [h'] at e
     simp only [Value.ownBlock,Option.some.injEq] at e
     rw [← e,HL2.out.pl.blk] at h2'
     cases h2')
   have HBX:=Lib.hid hbx
   have hbase0 : n0 ≤ ((W2.alloc (.cells #[.int .i64 kd, .string tx, .int .i64 fl, .int .i64 fr, .int .i64 en, .bool bl, .int .i64 (way : Int), .int .i64 (par : Int)] 390)).drew).heap.size:=by have:=HL2.out.pl.hb; simp; omega
   have hlt0 : pb < ((W2.alloc (.cells #[.int .i64 kd, .string tx, .int .i64 fl, .int .i64 fr, .int .i64 en, .bool bl, .int .i64 (way : Int), .int .i64 (par : Int)] 390)).drew).heap.size:=by simp; omega
   have HLT0:=Lib.hid hlt0
   have HC2:=Lib.hid (show ((W2.alloc (.cells #[.int .i64 kd, .string tx, .int .i64 fl, .int .i64 fr, .int .i64 en, .bool bl, .int .i64 (way : Int), .int .i64 (par : Int)] 390)).drew).cell? ⟨pb,1,none⟩ = some sv from Lib.cell?_alloc_some _ HC1.out)
   have HF2:=Lib.hid (show ((W2.alloc (.cells #[.int .i64 kd, .string tx, .int .i64 fl, .int .i64 fr, .int .i64 en, .bool bl, .int .i64 (way : Int), .int .i64 (par : Int)] 390)).drew).frozen? ⟨pb,1,none⟩ = false from (World.frozen?_of_block (w:=W2) (a:=⟨pb,1,none⟩) (Below.heap_alloc W2 _ pb hpl)).trans HF1.out)
   clear hlt0
   obtain ⟨L,hL⟩ : ∃ L,L = P.length:=⟨_,rfl⟩
   rw [← hL] at hPl
   have HPL:=Lib.hid hL
   clear hL hbx
   rw [← HPL.out] at HRW
   go_region_law ((refine step_append_lies _ rfl (.tmp 34) (.tmp 36) 335 rfl n0 390 i0 _ 8 72 Tryz.underlying335 HI.out HZ0.out HZ1.out HZ2.out rfl (by omega) sv L (pcCells P) rfl ?_ ⟨W2.heap.size,0,none⟩ 1 1 [.int .i64 kd, .string tx, .int .i64 fl, .int .i64 fr, .int .i64 en, .bool bl, .int .i64 (way : Int), .int .i64 (par : Int)] rfl rfl ?_ (by simp [Value.oneCell']) (by omega) (by unfold maxLen; omega) (by omega) ?_ (W2.heap.size + 1) ?_ ?_; exact ((HRW.out.alloc _).drew); exact World.news_of_block (cs:=#[.int .i64 kd, .string tx, .int .i64 fl, .int .i64 fr, .int .i64 en, .bool bl, .int .i64 (way : Int), .int .i64 (par : Int)]) (t:=390) (fr:=(0,0)) (heap_alloc_new W2 _); exact hbase0; simp; intro g cap' w1 hown hgrow hat hlt1; have hc1w:=(hgrow.cell_far ⟨pb,1,none⟩ HLT0.out HOFF.out).trans HC2.out; have hfzw:=(hgrow.frozen_far ⟨pb,1,none⟩ HLT0.out HOFF.out).trans HF2.out))
   all_goals
    have hPL:=HPL.out
    subst hPL
    have hbx3 : (w1.setCell ⟨pb,1,none⟩ (.slice (some ⟨g,0,none⟩) (P.length + 1) cap')).heap[B8]? = _ :=
     (heap_setCell_other _ ⟨pb,1,none⟩ B8 _ (fun e => by have e : B8 = pb:=e; have h1:=HBX.out; rw [e,HL2.out.pl.blk] at h1; cases h1)).trans ((hgrow.block B8 (by simp; omega) (fun e => by have:=HSO.out B8 e.symm; omega)).trans ((Below.heap_alloc W2 _ B8 h8l).trans HBX.out))
    have hL3:=HL2.out.piece (p:=⟨⟨kd,tx,fl,fr,en,bl⟩,way,par⟩) hown hgrow
    generalize (w1.setCell ⟨pb,1,none⟩ (.slice (some ⟨g,0,none⟩) (P.length + 1) cap')) = X at hbx3 hL3 ⊢
    have HL3:=Lib.hid hL3
    obtain ⟨q0,q1,q2,q3,q4,q5,q6,q7, -⟩:=box8_cells hbx3
    have hkk:=HK.out
    clear hL3 hbx3 hown hgrow hat hlt1 hc1w hfzw y1 y2 hpl h8l hbase0
    rcases (by omega : way = 2 ∨ way = 4 ∨ (way ≠ 2 ∧ way ≠ 4)) with rfl | rfl | ⟨hw2,hw4⟩
    ·have hst2:=HST2.out
     rw [if_pos rfl] at hst2
     have HST3:=Lib.hid hst2
     clear hst2
     have hu:=HL3.out.pl.urow.cellAt (par * 2 + 1) (show par * 2 + 1 < k * 2 by omega)
     rw [usCells_get k P _ (by omega)] at hu
     have hf:=HL3.out.pl.urow.frozenAt (par * 2 + 1)
     have y3 : X.cell? ⟨pb,2,none⟩ = some (.slice (some ⟨ug,0,none⟩) k uc):=(Lib.cell_of_heap HL3.out.pl.blk 2).trans rfl
     have v1 : (0 : Int) ≤ par:=by omega
     have v2 : (par : Int) < k:=by omega
     clear hkk
     generalize (if (par * 2 + 1) % 2 = 0 then Ep.uses 4 P ((par * 2 + 1) / 2) else Ep.uses 2 P ((par * 2 + 1) / 2)) = ub at hu
     have HL4:=Lib.hid ((HL3.out.use (o:=1) rfl (.inr ⟨rfl,rfl⟩)).drew)
     go_wp2_with fail
     go_region
     go_wp2_with fail
     go_roundw
     case rel => exact ⟨i + 2,_,_,by go_num,HST3.out,HL4.out,by omega⟩
     case measure => simp [intOf]; omega
    ·have hst2:=HST2.out
     rw [if_neg (by show ¬ (4 = 2); omega)] at hst2
     have HST3:=Lib.hid hst2
     clear hst2
     have hu:=HL3.out.pl.urow.cellAt (par * 2 + 0) (show par * 2 + 0 < k * 2 by omega)
     rw [usCells_get k P _ (by omega)] at hu
     have hf:=HL3.out.pl.urow.frozenAt (par * 2 + 0)
     rw [Nat.add_zero] at hu hf
     have y3 : X.cell? ⟨pb,2,none⟩ = some (.slice (some ⟨ug,0,none⟩) k uc):=(Lib.cell_of_heap HL3.out.pl.blk 2).trans rfl
     have v1 : (0 : Int) ≤ par:=by omega
     have v2 : (par : Int) < k:=by omega
     clear hkk
     generalize (if (par * 2) % 2 = 0 then Ep.uses 4 P ((par * 2) / 2) else Ep.uses 2 P ((par * 2) / 2)) = ub at hu
     have HL4:=Lib.hid ((HL3.out.use (o:=0) rfl (.inl ⟨rfl,rfl⟩)).drew)
     go_wp2_with fail
     go_region
     go_wp2_with fail
     go_roundw
     case rel => exact ⟨i + 1,_,_,by go_num,HST3.out,HL4.out,by omega⟩
     case measure => simp [intOf]; omega
    ·have hst2:=HST2.out
     rw [if_neg hw2] at hst2
     have HST3:=Lib.hid hst2
     have HL4:=Lib.hid (HL3.out.none hw2 hw4)
     have b1 : ((way : Int) == 2) = false:=beq_eq_false_iff_ne.2 (by omega)
     have b2 : ((way : Int) == 4) = false:=beq_eq_false_iff_ne.2 (by omega)
     clear hst2 hw2 hw4
     go_wp2_with fail
     go_roundw
     case rel => exact ⟨i + 1,_,_,by go_num,HST3.out,HL4.out,by omega⟩
     case measure => simp [intOf]; omega
  ·have hend:=plSt_end hst hge
   subst hend
   have HL:=Lib.hid hL
   have x1 : ¬ ((i : Int) < (m.body.length : Int)):=by omega
   have x2 : decide ((i : Int) < (m.body.length : Int)) = false:=decide_eq_false x1
   clear hL hst hge
   go_wp2_with fail
   refine wp_sec 4 planBody rfl ?_
   conv => arg 2; whnf
   go_wp2_with fail
   conv => arg 2; whnf
   go_wp2_with fail
   go_ret
   exact ⟨⟨sv,rfl,HL.out.pl⟩,HL.out.bl⟩
end
section
open Go.RowKit Go.Shelf Go.WideMaps
open Mx (M)
theorem bodyPost_mono {P : Program} {fn : Func} {R R' : Ending → World → Prop} (hR : ∀ e w,R e w → R' e w) : ∀ {e : Exit} {a : Act} {w : World},bodyPost P fn R e a w → bodyPost P fn R' e a w:=by
 intro e a w h
 cases e with
 | normal => exact ⟨h.1,h.2.choose,h.2.choose_spec.1,hR _ _ h.2.choose_spec.2⟩
 | ret => exact ⟨h.1,h.2.choose,h.2.choose_spec.1,hR _ _ h.2.choose_spec.2⟩
 | panic c => exact ⟨h.1,hR _ _ h.2⟩
 | outgrown => exact hR _ _ h
 | _ => exact h
def PlanPost (w : World) (m : M) (num : Nat) (e : Ending) (w' : World) : Prop :=
 ∃ pb sv uv,e = .returned (.pointer (some ⟨pb,0,none⟩)) ∧ PlW w' w.heap.size pb num sv uv (Ep.pieces m) (Ep.pieces m) (m.ps.length + 1) ∧ Below w.heap.size w w'
theorem PlW.base {W : World} {n0 n1 pb num : Nat} {sv uv : Value} {P U : List Ep.Pc} {k : Nat} (h : PlW W n0 pb num sv uv P U k) (hn : n1 ≤ n0) : PlW W n1 pb num sv uv P U k :=
 ⟨h.blk,Nat.le_trans hn h.hb,⟨h.srow.1,by
  rcases h.srow.2 with h' | ⟨g,cap,cur,h',h1,h2,h3⟩
  ·exact .inl h'
  ·exact .inr ⟨g,cap,cur,h',Nat.le_trans hn h1,h2,h3⟩⟩,⟨h.urow.1,by
  rcases h.urow.2 with h' | ⟨g,cap,cur,h',h1,h2,h3⟩
  ·exact .inl h'
  ·exact .inr ⟨g,cap,cur,h',Nat.le_trans hn h1,h2,h3⟩⟩⟩
theorem eplanOf_any (v : Value) (m : M) (num : Nat) (w : World) (hv : MacV w v m) (hx : ∀ u ∈ m.body,u.text.size ≤ 1000000000) (hl : m.body.length ≤ 1000000) (hps : m.ps.length ≤ 1000000) (hsz : ∀ p ∈ m.ps,p.size ≤ 1000000000) :
  Calls Tryz.prog 248 #[v, .int .i64 num] w (PlanPost w m num):=by
 obtain ⟨iu,hi,hz0,hz1,hz2⟩:=info_parts infoUse
 obtain ⟨pv,bv,rfl,hp,hb⟩:=id hv
 obtain ⟨ad,cap,rfl, -, -, -⟩:=id hb
 obtain ⟨ap,cp,rfl, -, -, -⟩:=id hp
 have HV:=Lib.hid hv
 have HX:=Lib.hid hx
 have HS:=Lib.hid hsz
 have hbx:=heap_alloc_new w (.cells #[.string m.name, .bool m.fn, .slice ap m.ps.length cp, .bool m.va, .slice ad m.body.length cap] 168)
 have hA : Below w.heap.size w (w.alloc (.cells #[.string m.name, .bool m.fn, .slice ap m.ps.length cp, .bool m.va, .slice ad m.body.length cap] 168)):=(Below.refl _ w).alloc (Nat.le_refl _) _
 have hsz1 : (w.alloc (.cells #[.string m.name, .bool m.fn, .slice ap m.ps.length cp, .bool m.va, .slice ad m.body.length cap] 168)).heap.size = w.heap.size + 1:=by simp
 clear hp hb hv hx hsz
 go_enter Tryz.func248,Tryz.ntmps248
 show Code.wp Tryz.prog (secs 0 planBody) _ _ _
 refine wp_sec 0 planBody rfl ?_
 conv => arg 2; whnf
 go_wp2_with fail
 generalize (w.alloc (.cells #[.string m.name, .bool m.fn, .slice ap m.ps.length cp, .bool m.va, .slice ad m.body.length cap] 168)) = W1 at hbx hA hsz1 ⊢
 obtain ⟨c0,c1,c2,c3,c4⟩:=mac_cells hbx
 refine wp_sec 1 planBody rfl ?_
 conv => arg 2; whnf
 go_wp2_with (at_make; refine wpList_make_full _ rfl _ _ 336 rfl W1.heap.size 386 iu _ 2 Tryz.underlying336 hi hz0 hz1 .i64 .i64 _ _ (m.ps.length + 1) rfl rfl (by push_cast; rfl) (by push_cast; rfl) (by rw [hz2]; omega) (by unfold maxLen; omega) (Nat.le_refl _) ?_; intro w1 hrow1 hg1)
 have hsz2:=hsz1
 rw [hsz1] at hrow1
 have hB1 : Below w.heap.size w w1:=hA.grown hg1 (by omega) (fun j e => by cases e)
 have hbx1:=(hg1.block _ (lt_of_heap hbx) (by simp)).trans hbx
 have hle : w.heap.size + 1 ≤ w1.heap.size:=by have:=hg1.size; omega
 have hA2 : Below w1.heap.size w1 (w1.alloc (.cells #[.int .i64 (num : Int), .slice none 0 0, .slice (some ⟨w.heap.size + 1,0,none⟩) (m.ps.length + 1) (m.ps.length + 1)] 338)):=(Below.refl _ _).alloc (Nat.le_refl _) _
 have hpl : PlW (w1.alloc (.cells #[.int .i64 (num : Int), .slice none 0 0, .slice (some ⟨w.heap.size + 1,0,none⟩) (m.ps.length + 1) (m.ps.length + 1)] 338)) (w.heap.size + 1) w1.heap.size num (.slice none 0 0) (.slice (some ⟨w.heap.size + 1,0,none⟩) (m.ps.length + 1) (m.ps.length + 1)) [] [] (m.ps.length + 1):=by
  refine ⟨heap_alloc_new w1 _,hle,World.ownsRow_nil _ _ _ _,?_⟩
  rw [← usCells_made]
  exact row_below hrow1 hA2
 have hbx2:=(hA2.block _ (lt_of_heap hbx1)).trans hbx1
 have hB2 : Below w.heap.size w (w1.alloc (.cells #[.int .i64 (num : Int), .slice none 0 0, .slice (some ⟨w.heap.size + 1,0,none⟩) (m.ps.length + 1) (m.ps.length + 1)] 338)):=hB1.trans (hA2.mono hB1.size)
 generalize (w1.alloc (.cells #[.int .i64 (num : Int), .slice none 0 0, .slice (some ⟨w.heap.size + 1,0,none⟩) (m.ps.length + 1) (m.ps.length + 1)] 338)) = W2 at hpl hbx2 hB2 ⊢
 generalize w1.heap.size = pb at hpl ⊢
 have KP:=Lib.hid (eparams_any _ m W2 (HV.out.below hB2) hps HS.out)
 have HPL:=Lib.hid hpl
 have HBX:=Lib.hid hbx2
 have HB2:=Lib.hid hB2
 obtain ⟨d0,d1,d2,d3,d4⟩:=mac_cells hbx2
 clear c0 c1 c2 c3 c4 hbx hA hsz1 hrow1 hg1 hB1 hbx1 hle hA2 hpl hbx2 hB2 hsz2 hi hz0 hz1 hz2
 refine wp_sec 2 planBody rfl ?_
 conv => arg 2; whnf
 go_wp2_with fail
 refine (KP.out).mono ?_
 rintro e W3 ⟨mb,N,rfl,hmap, -,hb3⟩
 have hL : PlL w W3 (w.heap.size + 1) pb num (.slice (some ⟨w.heap.size + 1,0,none⟩) (m.ps.length + 1) (m.ps.length + 1)) (m.ps.length + 1) mb N m (.slice ap m.ps.length cp) ad cap [] [] (.slice none 0 0) :=
  ⟨HPL.out.below hb3,(hb3.block _ (lt_of_heap HBX.out)).trans HBX.out,hmap,Below.then HB2.out hb3,by omega⟩
 have HL:=Lib.hid hL
 clear d0 d1 d2 d3 d4 hL hmap hb3 KP
 go_wp2_with fail
 refine Code.wp_mono (fun e a w' h => bodyPost_mono (fun e w' h => ?_) h) (plan_tail3 w W3 (w.heap.size + 1) pb num _ (m.ps.length + 1) mb N m _ ad cap _ _ _ _ _ _ _ _ _ _ _ _ _ _ _ _ _ _ _ _ _ _ _ _ _ _ _ _ _ _ _ _ _ _ _ _ _ _ _ _ _ _ _ _ _ _ _ _ _ _ _ _ _ _ _ _ _ _ _ _ _ _ _ HL.out HV.out HX.out hl rfl hps)
 obtain ⟨⟨sv,h2,h3⟩,h4⟩:=h
 exact ⟨pb,sv,_,h2,h3.base (by omega),h4⟩
end
section
open Go.RowKit Go.Shelf
open Ep (HT)
open Mx (M)
theorem box3_cells {W : World} {b t : Nat} {a0 a1 a2 : Value} (h : W.heap[b]? = some (.cells #[a0,a1,a2] t (0,0))) :
  W.cell? ⟨b,0,none⟩ = some a0 ∧ W.cell? ⟨b,1,none⟩ = some a1 ∧ W.cell? ⟨b,2,none⟩ = some a2 ∧ (∀ i,W.frozen? ⟨b,i,none⟩ = false) :=
 ⟨(Lib.cell_of_heap h 0).trans rfl,(Lib.cell_of_heap h 1).trans rfl,(Lib.cell_of_heap h 2).trans rfl,fun i => by simp [World.frozen?,h]⟩
theorem estep_old (xb kb : Nat) (mp : Value) (np steps : Nat) (z0 z1 z2 z3 z4 : Value) (pa : Addr) (w : World) (hx : w.heap[xb]? = some (.cells #[mp, .int .i64 (np : Int), .int .i64 (steps : Int)] 303 (0,0)))
  (hk : w.heap[kb]? = some (.cells #[z0,z1,z2,z3,z4, .pointer (some pa)] 307 (0,0))) (hs : steps < 1000) :
  Calls Tryz.prog 218 #[.pointer (some ⟨xb,0,none⟩), .pointer (some ⟨kb,0,none⟩)] w fun e w' => e = .returned (.int .i64 0) ∧ w' = w.setCell ⟨xb,2,none⟩ (.int .i64 ((steps : Int) + 1)):=by
 obtain ⟨x0,x1,x2,xf⟩:=box3_cells hx
 obtain ⟨k0,k1,k2,k3,k4,k5⟩:=box6_cells hk
 have hne : kb ≠ xb:=fun e => by rw [e,hx] at hk; injection hk with h; injection h with _ h _; exact absurd h (by decide)
 have q1 : ¬ (steps : Int) = 1000:=by omega
 have q2 : ¬ steps = 1000:=by omega
 have q3 : IntKind.i64.wrap ((steps : Int) + 1) = ((steps : Int) + 1):=IntWalk.i64_in _ (by omega)
 have q4 : ((steps : Int) == 1000) = false:=by simpa using q1
 have k5' : (w.setCell ⟨xb,2,none⟩ (.int .i64 ((steps : Int) + 1))).cell? ⟨kb,5,none⟩ = some (.pointer (some pa)):=(World.cell?_of_block (a:=⟨kb,5,none⟩) (heap_setCell_other w ⟨xb,2,none⟩ kb _ hne)).trans k5
 clear hx hk
 go_enter Tryz.func218,Tryz.ntmps218
 go_wp2_with fail
 go_ret
 exact ⟨rfl,rfl⟩
theorem estep_new (xb kb : Nat) (mp : Value) (np steps : Nat) (m : M) (pv bv : Value) (w0 w : World) (hx : w.heap[xb]? = some (.cells #[mp, .int .i64 (np : Int), .int .i64 (steps : Int)] 303 (0,0)))
  (hk : w.heap[kb]? = some (.cells #[.string m.name, .bool m.fn,pv, .bool m.va,bv, .pointer none] 307 (0,0))) (hm : MacV w0 (.agg #[.string m.name, .bool m.fn,pv, .bool m.va,bv]) m) (hB0 : Below w0.heap.size w0 w) (hxb : w0.heap.size ≤ xb) (hs : steps < 1000) (hn : np ≤ 1000000)
  (hbx : ∀ u ∈ m.body,u.text.size ≤ 1000000000) (hl : m.body.length ≤ 1000000) (hps : m.ps.length ≤ 1000000) (hsz : ∀ p ∈ m.ps,p.size ≤ 1000000000) :
  Calls Tryz.prog 218 #[.pointer (some ⟨xb,0,none⟩), .pointer (some ⟨kb,0,none⟩)] w fun e w' => e = .returned (.int .i64 0) ∧ ∃ pb sv uv W1,PlW W1 w.heap.size pb np sv uv (Ep.pieces m) (Ep.pieces m) (m.ps.length + 1) ∧ Below w.heap.size (w.setCell ⟨xb,2,none⟩ (.int .i64 ((steps : Int) + 1))) W1 ∧
   w' = (W1.setCell ⟨kb,5,none⟩ (.pointer (some ⟨pb,0,none⟩))).setCell ⟨xb,1,none⟩ (.int .i64 ((np : Int) + 1)):=by
 obtain ⟨x0,x1,x2,xf⟩:=box3_cells hx
 obtain ⟨k0,k1,k2,k3,k4,k5⟩:=box6_cells hk
 have hne : kb ≠ xb:=fun e => by rw [e,hx] at hk; injection hk with h; injection h with _ h _; exact absurd h (by decide)
 have q1 : ¬ (steps : Int) = 1000:=by omega
 have q2 : ¬ steps = 1000:=by omega
 have q3 : IntKind.i64.wrap ((steps : Int) + 1) = (steps : Int) + 1:=IntWalk.i64_in _ (by omega)
 have q4 : ((steps : Int) == 1000) = false:=by simpa using q1
 have q5 : IntKind.i64.wrap ((np : Int) + 1) = (np : Int) + 1:=IntWalk.i64_in _ (by omega)
 have hk1 : (w.setCell ⟨xb,2,none⟩ (.int .i64 ((steps : Int) + 1))).heap[kb]? = _:=(heap_setCell_other w ⟨xb,2,none⟩ kb _ hne).trans hk
 have hx1 : (w.setCell ⟨xb,2,none⟩ (.int .i64 ((steps : Int) + 1))).heap[xb]? = some (.cells #[mp, .int .i64 (np : Int), .int .i64 ((steps : Int) + 1)] 303 (0,0)):=by simp [World.setCell,Array.getElem?_modify,hx]
 have hs1 : (w.setCell ⟨xb,2,none⟩ (.int .i64 ((steps : Int) + 1))).heap.size = w.heap.size:=by simp
 have hm1 : MacV (w.setCell ⟨xb,2,none⟩ (.int .i64 ((steps : Int) + 1))) (.agg #[.string m.name, .bool m.fn,pv, .bool m.va,bv]) m:=hm.below (hB0.setCell (show w0.heap.size ≤ xb from hxb) _)
 have KP:=Lib.hid (eplanOf_any _ m np (w.setCell ⟨xb,2,none⟩ (.int .i64 ((steps : Int) + 1))).drew (hm1.below (Below.refl _ _).drew) hbx hl hps hsz)
 have HK1:=Lib.hid hk1
 have HX1:=Lib.hid hx1
 have HS1:=Lib.hid hs1
 have g5 : (w.setCell ⟨xb,2,none⟩ (.int .i64 ((steps : Int) + 1))).cell? ⟨kb,5,none⟩ = some (.pointer none):=(Lib.cell_of_heap hk1 5).trans rfl
 clear hm hm1 hB0 hxb hbx hl hps hsz hk1 hx1 hs1 hk hx
 go_enter Tryz.func218,Tryz.ntmps218
 go_wp2_with fail
 obtain ⟨y0,y1,y2,yf⟩:=box3_cells HX1.out
 obtain ⟨l0,l1,l2,l3,l4,l5⟩:=box6_cells HK1.out
 have hkl:=lt_of_heap HK1.out
 have hxl:=lt_of_heap HX1.out
 generalize hVe : (w.setCell ⟨xb,2,none⟩ (.int .i64 ((steps : Int) + 1))) = V at KP HK1 HX1 HS1 g5 y0 y1 y2 yf l0 l1 l2 l3 l4 l5 hkl hxl ⊢
 have HVE:=Lib.hid hVe
 clear hVe
 have HKL:=Lib.hid hkl
 have HXL:=Lib.hid hxl
 clear x0 x1 x2 xf k5 g5 hkl hxl
 go_region_with ((go_at_call 248; go_split_ands; refine KP.out.mono ?_; rintro e4 w4 ⟨pb,sv,uv,rfl,hpl,hb4⟩; have hk4:=(hb4.block kb HKL.out).trans HK1.out; have hx4:=(hb4.block xb HXL.out).trans HX1.out; obtain ⟨m0,m1,m2,m3,m4,m5⟩:=box6_cells hk4; have mf : ∀ i,w4.frozen? ⟨kb,i,none⟩ = false:=(fun i => by simp [World.frozen?,hk4]); have HK4:=Lib.hid hk4; have HX4:=Lib.hid hx4; have HPL:=Lib.hid hpl; have HB4:=Lib.hid hb4; clear hk4 hx4 hpl hb4))
 all_goals
  have hx5 : (w4.setCell ⟨kb,5,none⟩ (.pointer (some ⟨pb,0,none⟩))).heap[xb]? = _:=(heap_setCell_other w4 ⟨kb,5,none⟩ xb _ (Ne.symm hne)).trans HX4.out
  obtain ⟨n0,n1,n2,nf⟩:=box3_cells hx5
  clear hx5 m0 m1 m2 m3 m4 m5 mf y0 y1 y2 yf l0 l1 l2 l3 l4 l5
  have hbV : Below w.heap.size V w4:=by
   have h1:=(Below.refl V.heap.size V).drew.trans HB4.out
   rw [HS1.out] at h1
   exact h1
  have HBV:=Lib.hid hbV
  have hplV : PlW w4 w.heap.size pb np sv uv (Ep.pieces m) (Ep.pieces m) (m.ps.length + 1):=by
   have h1:=HPL.out
   rw [show V.drew.heap.size = w.heap.size from HS1.out] at h1
   exact h1
  have HPV:=Lib.hid hplV
  clear hbV hplV
  go_wp2_with fail
  go_ret
  exact ⟨rfl,pb,sv,uv,w4,HPV.out,by rw [HVE.out]; exact HBV.out,rfl⟩
end
section
open Go.RowKit Go.Shelf Go.MapKept
def lk {κ : Type} [DecidableEq κ] (k : κ) : List (κ × Value) → Option Value
 | [] => none
 | (a,v) :: r => if a = k then some v else lk k r
theorem lk_snoc {κ : Type} [DecidableEq κ] (k a : κ) (v : Value) : ∀ (es : List (κ × Value)),lk k (es ++ [(a,v)]) = match lk k es with | some x => some x | none => if a = k then some v else none
 | [] => rfl
 | (b,u) :: r => by
  rw [List.cons_append,lk,lk,lk_snoc k a v r]
  by_cases h : b = k
  ·rw [if_pos h,if_pos h]
  ·rw [if_neg h,if_neg h]
theorem lk_mem {κ : Type} [DecidableEq κ] {k : κ} {v : Value} : ∀ {es : List (κ × Value)},lk k es = some v → (k,v) ∈ es
 | [],h => by cases h
 | (b,u) :: r,h => by
  rw [lk] at h
  by_cases e : b = k
  ·rw [if_pos e] at h
   injection h with h
   rw [e,h]
   exact List.mem_cons_self
  ·rw [if_neg e] at h
   exact List.mem_cons_of_mem _ (lk_mem h)
def MpAt {κ : Type} (key : κ → Value) (W : World) (mb : Nat) (es : List (κ × Value)) : Prop :=
 ∃ arr clock,W.heap[mb]? = some (.map arr clock) ∧ arr.toList.map (fun e => (e.key,e.val)) = es.map (fun x => (key x.1,x.2))
section
variable {κ : Type} {key : κ → Value} {W W' : World} {mb : Nat} {es : List (κ × Value)}
theorem MpAt.lt (h : MpAt key W mb es) : mb < W.heap.size:=by obtain ⟨_,_,h,_⟩:=h; exact lt_of_heap h
theorem MpAt.keep (h : MpAt key W mb es) (hb : ∀ o,W.heap[mb]? = some o → W'.heap[mb]? = some o) : MpAt key W' mb es:=by
 obtain ⟨arr,clock,h1,h2⟩:=h
 exact ⟨arr,clock,hb _ h1,h2⟩
theorem MpAt.below (h : MpAt key W mb es) (hb : Below W.heap.size W W') : MpAt key W' mb es:=h.keep fun _ ho => (hb.block mb (lt_of_heap ho)).trans ho
theorem MpAt.new (key : κ → Value) (W : World) : MpAt key (W.alloc (.map #[] 0)) W.heap.size []:=⟨#[],0,heap_alloc_new W (.map #[] 0),rfl⟩
theorem MpAt.set (h : MpAt key W mb es) {a : Addr} {cs : Array Value} {t : TypeId} {fz : Nat × Nat} (hk : W.heap[a.block]? = some (.cells cs t fz)) (u : Value) : MpAt key (W.setCell a u) mb es :=
 h.keep fun o ho => (heap_setCell_other W a mb u fun e => by
  obtain ⟨arr,clock,h1,_⟩:=h
  rw [e,hk] at h1
  cases h1).trans ho
end
def ptrKey (p : Option Addr) : Value:=.pointer p
theorem infoNm : (Tryz.prog.info? 379).map (fun i => i.size) = some 16:=by kernel_rfl
theorem equal_ptrs {W : World} {p q : Option Addr} {h k : Nat} (hp : HidP W p h) (hq : HidP W q k) : (Op.equal 312 (.pointer p) (.pointer q)).run Tryz.prog W = .ok (decide (p = q)) W:=by
 obtain ⟨j,hj,hsz⟩ : ∃ j,Tryz.prog.info? 379 = some j ∧ j.size = 16:=by
  have:=infoNm
  cases hi : Tryz.prog.info? 379 with
  | none => rw [hi] at this; cases this
  | some j => rw [hi] at this; injection this with this; exact ⟨j,rfl,this⟩
 suffices hd : ∀ d : Nat,(Op.equalIn (d + 1) 312 (.pointer p) (.pointer q)).run Tryz.prog W = .ok (decide (p = q)) W from hd 9999
 intro d
 obtain ⟨-,⟨rfl, -⟩ | ⟨a,rfl,ha⟩⟩:=hp
 ·obtain ⟨-,⟨rfl, -⟩ | ⟨b,rfl,hb⟩⟩:=hq
  ·simp [Op.equalIn,run_underlying Tryz.underlying312]
  ·simp [Op.equalIn,run_underlying Tryz.underlying312]
 ·obtain ⟨-,⟨rfl, -⟩ | ⟨b,rfl,hb⟩⟩:=hq
  ·simp [Op.equalIn,run_underlying Tryz.underlying312]
  ·by_cases e : a = b
   ·subst e
    simp [Op.equalIn,run_underlying Tryz.underlying312,sizeOf,typeInfo,hj,run_sameAddr_same]
   ·have hne : (⟨a,0,none⟩ : Addr) ≠ ⟨b,0,none⟩:=fun h => e (by injection h)
    simp [Op.equalIn,run_underlying Tryz.underlying312,sizeOf,typeInfo,hj,hsz,run_sameAddr_other W hne ha hb]
theorem checkPtr (b : Bool) (p : Option Addr) (W : World) : (Instr.checkKey b 10000 312 (.pointer p)).run Tryz.prog W = .ok () W:=by kernel_rfl
theorem findAsk_ptr {W : World} {p : Option Addr} {h : Nat} (hp : HidP W p h) : ∀ (l : List MapEntry) (es : List (Option Addr × Value)) (j : Nat),l.map (fun e => (e.key,e.val)) = es.map (fun x => (ptrKey x.1,x.2)) → (∀ x ∈ es,∃ k,HidP W x.1 k) →
  (lk p es = none ∧ (Instr.findAsking 312 (.pointer p) l j).run Tryz.prog W = .ok none W) ∨ ∃ i v,lk p es = some v ∧ (Instr.findAsking 312 (.pointer p) l j).run Tryz.prog W = .ok (some (i,v)) W
 | [],[],j,_,_ => .inl ⟨rfl,rfl⟩
 | [],_ :: _,_,he,_ => by cases he
 | _ :: _,[],_,he,_ => by cases he
 | e :: l,(a,v) :: es,j,he,hk => by
  rw [List.map_cons,List.map_cons] at he
  injection he with h1 h2
  injection h1 with h3 h4
  obtain ⟨k,hak⟩:=hk _ List.mem_cons_self
  have hq:=equal_ptrs hp hak
  unfold Instr.findAsking
  have h3 : e.key = .pointer a:=h3
  rw [h3,Sem.run_bind,hq,Result.andThen_ok,Sem.run_ite,lk]
  by_cases hx : a = p
  ·right
   refine ⟨j,v,by rw [if_pos hx],?_⟩
   have h4 : e.val = v:=h4
   rw [decide_eq_true hx.symm,if_pos rfl,h4]
   rfl
  ·rw [if_neg hx,decide_eq_false (fun e => hx e.symm),if_neg (by decide)]
   exact findAsk_ptr hp l es (j + 1) h2 (fun x hx => hk x (List.mem_cons_of_mem _ hx))
theorem findKey_ptr {W : World} {p : Option Addr} {h : Nat} (hp : HidP W p h) (l : List MapEntry) (es : List (Option Addr × Value)) (he : l.map (fun e => (e.key,e.val)) = es.map (fun x => (ptrKey x.1,x.2))) (hk : ∀ x ∈ es,∃ k,HidP W x.1 k) :
  (lk p es = none ∧ (Instr.findKey 312 (.pointer p) l).run Tryz.prog W = .ok none W) ∨ ∃ i v,lk p es = some v ∧ (Instr.findKey 312 (.pointer p) l).run Tryz.prog W = .ok (some (i,v)) W:=by
 unfold Instr.findKey
 rw [Sem.run_bind,run_underlying Tryz.underlying312,Result.andThen_ok]
 cases l with
 | nil =>
  cases es with
  | nil => exact .inl ⟨rfl,rfl⟩
  | cons a b => cases he
 | cons e l =>
  unfold Instr.findNow
  rw [show Instr.sameNow (.pointer 379) (.pointer p) e.key = none from rfl]
  exact findAsk_ptr hp (e :: l) es 0 he hk
theorem look_ptr {W : World} {mb : Nat} {es : List (Option Addr × Value)} {p : Option Addr} {h : Nat} (hm : MpAt ptrKey W mb es) (hp : HidP W p h) (hk : ∀ x ∈ es,∃ k,HidP W x.1 k) :
  (Instr.lookup 392 (.map (some mb)) (.pointer p) false).run Tryz.prog W = .ok ((lk p es).getD (.pointer none)) W:=by
 obtain ⟨arr,clock,h1,h2⟩:=hm
 have hg:=Go.MapKept.run_getObj_map (P:=Tryz.prog) h1
 unfold Instr.lookup
 simp only [Sem.run_bind,run_underlying Tryz.underlying392,Result.andThen_ok,hg,Sem.run_pure,checkPtr]
 rcases findKey_ptr hp _ _ h2 hk with ⟨e1,e2⟩ | ⟨i,v,e1,e2⟩
 ·rw [e2,e1]
  simp only [Option.getD_none]
  simp
 ·rw [e2,e1]
  simp
theorem new_ptr {W : World} {mb : Nat} {es : List (Option Addr × Value)} {p : Option Addr} {h : Nat} (hm : MpAt ptrKey W mb es) (hp : HidP W p h) (hk : ∀ x ∈ es,∃ k,HidP W x.1 k) (hn : lk p es = none) (v : Value) :
  ∃ W',(Instr.mapUpdate 392 (.map (some mb)) (.pointer p) v).run Tryz.prog W = .ok () W' ∧ MpAt ptrKey W' mb (es ++ [(p,v)]) ∧ W.grownBy W' (some mb):=by
 obtain ⟨arr,clock,h1,h2⟩:=hm
 have hg:=Go.MapKept.run_getObj_map (P:=Tryz.prog) h1
 have hs:=Go.MapKept.run_setObj_map (P:=Tryz.prog) (.map (arr.push { key:=.pointer p,val:=v,born:=clock }) (clock + 1)) h1
 have hh:=heap_set (o':=.map (arr.push { key:=.pointer p,val:=v,born:=clock }) (clock + 1)) h1
 refine ⟨{ W with heap:=W.heap.setIfInBounds mb (.map (arr.push { key:=.pointer p,val:=v,born:=clock }) (clock + 1)) },?_,⟨_,_,hh.1,?_⟩,rfl,rfl,rfl,?_,fun i hi hne => hh.2 i (fun e => hne (by rw [e]))⟩
 ·unfold Instr.mapUpdate
  simp only [Sem.run_bind,run_underlying Tryz.underlying392,Result.andThen_ok,hg,checkPtr]
  rcases findKey_ptr hp _ _ h2 hk with ⟨e1,e2⟩ | ⟨i,v',e1,e2⟩
  ·rw [e2]
   exact hs
  ·rw [e1] at hn; cases hn
 ·simp only [Array.toList_push,List.map_append,List.map_cons,List.map_nil,h2]
  rfl
 ·simp
def strKey (s : ByteArray) : Value:=.string s
theorem findNow_str {s : ByteArray} : ∀ (l : List MapEntry) (es : List (ByteArray × Value)) (j : Nat),l.map (fun e => (e.key,e.val)) = es.map (fun x => (strKey x.1,x.2)) →
  (lk s es = none ∧ Instr.findNow .string (.string s) l j = some none) ∨ ∃ i v,lk s es = some v ∧ Instr.findNow .string (.string s) l j = some (some (i,v))
 | [],[],j,_ => .inl ⟨rfl,rfl⟩
 | [],_ :: _,_,he => by cases he
 | _ :: _,[],_,he => by cases he
 | e :: l,(a,v) :: es,j,he => by
  rw [List.map_cons,List.map_cons] at he
  injection he with h1 h2
  injection h1 with h3 h4
  have h3 : e.key = .string a:=h3
  have h4 : e.val = v:=h4
  unfold Instr.findNow
  rw [h3,show Instr.sameNow .string (.string s) (.string a) = some (s == a) from rfl,lk]
  by_cases hx : a = s
  ·right
   refine ⟨j,v,by rw [if_pos hx],?_⟩
   rw [(bytes_beq s a).2 hx.symm,h4]
  ·have hb : (s == a) = false:=by
    cases hb : s == a with
    | false => rfl
    | true => exact absurd ((bytes_beq s a).1 hb).symm hx
   rw [if_neg hx,hb]
   exact findNow_str l es (j + 1) h2
theorem findKey_str {W : World} (s : ByteArray) (l : List MapEntry) (es : List (ByteArray × Value)) (he : l.map (fun e => (e.key,e.val)) = es.map (fun x => (strKey x.1,x.2))) :
  (lk s es = none ∧ (Instr.findKey 9 (.string s) l).run Tryz.prog W = .ok none W) ∨ ∃ i v,lk s es = some v ∧ (Instr.findKey 9 (.string s) l).run Tryz.prog W = .ok (some (i,v)) W:=by
 rcases findNow_str (s:=s) l es 0 he with ⟨h1,h2⟩ | ⟨i,v,h1,h2⟩
 ·exact .inl ⟨h1,Go.MapKept.run_findKey Tryz.underlying9 h2⟩
 ·exact .inr ⟨i,v,h1,Go.MapKept.run_findKey Tryz.underlying9 h2⟩
theorem checkStr (b : Bool) (s : ByteArray) (W : World) : (Instr.checkKey b 10000 9 (.string s)).run Tryz.prog W = .ok () W:=by kernel_rfl
theorem zeroPKn (W : World) : (zeroValue 304).run Tryz.prog W = .ok (.pointer none) W:=by kernel_rfl
theorem look_str {W : World} {mb : Nat} {es : List (ByteArray × Value)} (hm : MpAt strKey W mb es) (s : ByteArray) :
  (Instr.lookup 301 (.map (some mb)) (.string s) false).run Tryz.prog W = .ok ((lk s es).getD (.pointer none)) W:=by
 obtain ⟨arr,clock,h1,h2⟩:=hm
 have hg:=Go.MapKept.run_getObj_map (P:=Tryz.prog) h1
 unfold Instr.lookup
 simp only [Sem.run_bind,run_underlying Tryz.underlying301,Result.andThen_ok,hg,Sem.run_pure,checkStr]
 rcases findKey_str (W:=W) s _ _ h2 with ⟨e1,e2⟩ | ⟨i,v,e1,e2⟩
 ·rw [e2,e1]
  simp [zeroPKn]
 ·rw [e2,e1]
  simp
theorem new_str {W : World} {mb : Nat} {es : List (ByteArray × Value)} (hm : MpAt strKey W mb es) (s : ByteArray) (hn : lk s es = none) (v : Value) :
  ∃ W',(Instr.mapUpdate 301 (.map (some mb)) (.string s) v).run Tryz.prog W = .ok () W' ∧ MpAt strKey W' mb (es ++ [(s,v)]) ∧ W.grownBy W' (some mb):=by
 obtain ⟨arr,clock,h1,h2⟩:=hm
 have hg:=Go.MapKept.run_getObj_map (P:=Tryz.prog) h1
 have hs:=Go.MapKept.run_setObj_map (P:=Tryz.prog) (.map (arr.push { key:=.string s,val:=v,born:=clock }) (clock + 1)) h1
 have hh:=heap_set (o':=.map (arr.push { key:=.string s,val:=v,born:=clock }) (clock + 1)) h1
 refine ⟨{ W with heap:=W.heap.setIfInBounds mb (.map (arr.push { key:=.string s,val:=v,born:=clock }) (clock + 1)) },?_,⟨_,_,hh.1,?_⟩,rfl,rfl,rfl,?_,fun i hi hne => hh.2 i (fun e => hne (by rw [e]))⟩
 ·unfold Instr.mapUpdate
  simp only [Sem.run_bind,run_underlying Tryz.underlying301,Result.andThen_ok,hg,checkStr]
  rcases findKey_str (W:=W) s _ _ h2 with ⟨e1,e2⟩ | ⟨i,v',e1,e2⟩
  ·rw [e2]
   exact hs
  ·rw [e1] at hn; cases hn
 ·simp only [Array.toList_push,List.map_append,List.map_cons,List.map_nil,h2]
  rfl
 ·simp
theorem grown_below {w W W' : World} {n : Nat} {mb : Nat} (hB : Below n w W) (hg : W.grownBy W' (some mb)) (hn : n ≤ mb) (hs : n ≤ W.heap.size) : Below n w W' :=
 ⟨hg.os.trans hB.os,hg.tape.trans hB.tape,hg.output.trans hB.output,Nat.le_trans hB.size hg.size,fun b hb => (hg.block b (by omega) (fun e => by injection e with e; omega)).trans (hB.block b hb)⟩
end
section
open Go.RowKit Go.Shelf
open Ep (HT)
def Ep.hidTo (k : Nat) (l : List HT) (h : Nat) : List HT:=Ep.hide (l.take k) h ++ l.drop k
theorem Ep.hide_length (l : List HT) (h : Nat) : (Ep.hide l h).length = l.length:=by simp [Ep.hide]
theorem Ep.hidTo_length (k : Nat) (l : List HT) (h : Nat) : (Ep.hidTo k l h).length = l.length:=by
 simp only [Ep.hidTo,List.length_append,Ep.hide_length,List.length_take,List.length_drop]
 omega
theorem Ep.hidTo_zero (l : List HT) (h : Nat) : Ep.hidTo 0 l h = l:=by simp [Ep.hidTo,Ep.hide]
theorem Ep.hidTo_all (l : List HT) (h k : Nat) (hk : l.length ≤ k) : Ep.hidTo k l h = Ep.hide l h:=by
 simp [Ep.hidTo,List.take_of_length_le hk,List.drop_eq_nil_of_le hk]
theorem Ep.hidTo_get {k : Nat} {l : List HT} {x : HT} (h : Nat) (hx : l[k]? = some x) : (Ep.hidTo k l h)[k]? = some x:=by
 have hk:=(List.getElem?_eq_some_iff.1 hx).1
 have h1 : (Ep.hide (l.take k) h).length = k:=by rw [Ep.hide_length,List.length_take]; omega
 rw [Ep.hidTo,List.getElem?_append_right (by omega),h1,Nat.sub_self,List.getElem?_drop,Nat.add_zero]
 exact hx
theorem Ep.hidTo_set {k : Nat} {l : List HT} {x : HT} (h : Nat) (hx : l[k]? = some x) : (Ep.hidTo k l h).set k ⟨x.t,x.hd ||| h,x.mark⟩ = Ep.hidTo (k + 1) l h:=by
 have hk:=(List.getElem?_eq_some_iff.1 hx).1
 have h1 : (Ep.hide (l.take k) h).length = k:=by rw [Ep.hide_length,List.length_take]; omega
 have h2 : l.drop k = x :: l.drop (k + 1):=by rw [List.drop_eq_getElem_cons hk,(List.getElem?_eq_some_iff.1 hx).2]
 have h3 : l.take (k + 1) = l.take k ++ [x]:=by rw [List.take_succ_eq_append_getElem hk,(List.getElem?_eq_some_iff.1 hx).2]
 rw [Ep.hidTo,Ep.hidTo,List.set_append_right _ _ (by omega),h1,Nat.sub_self,h2,List.set_cons_zero,h3]
 simp [Ep.hide]
theorem HCs.setHid {W : World} {d : Option Addr} {h' : Nat} (hd : HidP W d h') : ∀ {l : List HT} {cs : List Value} {k : Nat} {x : HT},HCs W l cs → l[k]? = some x → HCs W (l.set k ⟨x.t,h',x.mark⟩) (cs.set (k * 8 + 6) (.pointer d))
 | [],_,_,_,_,hx => by simp at hx
 | y :: l,cs,0,x,⟨p,r,e,hp,hr⟩,hx => by
  simp only [List.getElem?_cons_zero,Option.some.injEq] at hx
  subst hx e
  exact ⟨d,r,rfl,hd,hr⟩
 | y :: l,cs,k + 1,x,⟨p,r,e,hp,hr⟩,hx => by
  simp only [List.getElem?_cons_succ] at hx
  subst e
  refine ⟨p,r.set (k * 8 + 6) (.pointer d),?_,hp,HCs.setHid hd hr hx⟩
  rw [List.set_append_right _ _ (by rw [htCells_length]; omega),htCells_length,show (k + 1) * 8 + 6 - 8 = k * 8 + 6 by omega]
theorem HRow.block {W : World} {n g m cap : Nat} {l : List HT} (h : HRow W n (.slice (some ⟨g,0,none⟩) m cap) l) : ∃ cur,W.heap[g]? = some (.cells cur 314 (0,0)) ∧ n ≤ g:=by
 obtain ⟨cs,hrow, -⟩:=h
 rcases hrow.2 with ⟨h',_⟩ | ⟨g',cap',cur,h',h1,h2,_⟩
 ·cases h'
 ·cases h'; exact ⟨cur,h2,h1⟩
theorem HRow.setHid {W : World} {n g m cap k : Nat} {l : List HT} {x : HT} {d : Option Addr} {h' : Nat} (h : HRow W n (.slice (some ⟨g,0,none⟩) m cap) l) (hx : l[k]? = some x) (hd : HidP W d h') :
  HRow (W.setCell ⟨g,k * 8 + 6,none⟩ (.pointer d)) n (.slice (some ⟨g,0,none⟩) m cap) (l.set k ⟨x.t,h',x.mark⟩):=by
 obtain ⟨cur,hg, -⟩:=h.block
 obtain ⟨cs,hrow,hcs⟩:=h
 obtain rfl : m = l.length:=by
  rcases hrow.2 with ⟨h',_⟩ | ⟨g',cap',cur,h',_⟩
  ·cases h'
  ·cases h'; rfl
 refine ⟨cs.set (k * 8 + 6) (.pointer d),?_,(hcs.setHid hd hx).keep (Kept.set hg (by decide))⟩
 have:=(hrow.stored (k * 8 + 6) (.pointer d)).1
 rw [List.length_set]
 exact this
def SetsOk (W : World) (h : Nat) (es : List (Option Addr × Value)) : Prop:=∀ x ∈ es,∃ c d,HidP W x.1 c ∧ x.2 = .pointer (some d) ∧ HidP W (some d) (c ||| h)
theorem SetsOk.keep {W W' : World} {h : Nat} {es : List (Option Addr × Value)} (hs : SetsOk W h es) (hk : Kept 379 W W') : SetsOk W' h es:=fun x hx => by
 obtain ⟨c,d,h1,h2,h3⟩:=hs x hx
 exact ⟨c,d,h1.keep hk,h2,h3.keep hk⟩
theorem SetsOk.keys {W : World} {h : Nat} {es : List (Option Addr × Value)} (hs : SetsOk W h es) : ∀ x ∈ es,∃ k,HidP W x.1 k:=fun x hx => by
 obtain ⟨c,d,h1, -, -⟩:=hs x hx
 exact ⟨c,h1⟩
theorem HidP.one {W : World} {p : Option Addr} {a b : Nat} (h : HidP W p a) (k : HidP W p b) : a = b:=by
 obtain ⟨-,⟨rfl,h1⟩ | ⟨x,rfl,h1⟩⟩:=h
 ·obtain ⟨-,⟨_,h2⟩ | ⟨y,h2,_⟩⟩:=k
  ·rw [h1,h2]
  ·cases h2
 ·obtain ⟨-,⟨h2,_⟩ | ⟨y,h2,h3⟩⟩:=k
  ·cases h2
  ·cases h2
   rw [h1] at h3
   injection h3 with h3
   injection h3 with h3
   have:=congrArg (fun c => c[0]?) h3
   simp only [nmCells] at this
   simp at this
   omega
theorem SetsOk.get {W : World} {h : Nat} {es : List (Option Addr × Value)} {p : Option Addr} {c : Nat} {v : Value} (hs : SetsOk W h es) (hp : HidP W p c) (hl : lk p es = some v) : ∃ d,v = .pointer (some d) ∧ HidP W (some d) (c ||| h):=by
 obtain ⟨c',d,h1,h2,h3⟩:=hs _ (lk_mem hl)
 have e:=h1.one hp
 subst e
 exact ⟨d,h2,h3⟩
theorem Kept.grown {W W' : World} {mb : Nat} {arr : Array MapEntry} {clock : Nat} (hm : W.heap[mb]? = some (.map arr clock)) (hg : W.grownBy W' (some mb)) (t : TypeId) : Kept t W W':=fun b cs fz hb => (hg.block b (lt_of_heap hb) (fun e => by
 injection e with e
 rw [e,hm] at hb
 cases hb)).trans hb
theorem row_keepK {W W' : World} {B e sz n : Nat} {v : Value} {cs : List Value} (h : W.ownsRow B e sz v n cs) (hk : Kept e W W') : W'.ownsRow B e sz v n cs:=by
 refine ⟨h.1,?_⟩
 rcases h.2 with h' | ⟨g,cap,cur,h',h1,h2,h3⟩
 ·exact .inl h'
 ·exact .inr ⟨g,cap,cur,h',h1,hk g _ _ h2,h3⟩
theorem HRow.kept {W W' : World} {n : Nat} {v : Value} {l : List HT} (h : HRow W n v l) (h1 : Kept 314 W W') (h2 : Kept 379 W W') : HRow W' n v l:=by
 obtain ⟨cs,hrow,hcs⟩:=h
 exact ⟨cs,row_keepK hrow h1,hcs.keep h2⟩
theorem ehide_any (v : Value) (l : List HT) (q : Addr) (h n : Nat) (w : World) (hv : HRow w n v l) (hq : HidP w (some q) h) (hl : l.length ≤ 1000000) (hn : n ≤ w.heap.size) :
  Calls Tryz.prog 221 #[v, .pointer (some q)] w fun e w' => e = .returned (.tuple #[]) ∧ HRow w' n v (Ep.hide l h) ∧ Below n w w':=by
 obtain ⟨ad,cap,rfl, -, -⟩:=hv.hs.form
 obtain ⟨L,hL⟩ : ∃ L,L = l.length:=⟨_,rfl⟩
 rw [← hL] at hl hv ⊢
 have hA : Below w.heap.size w (w.alloc (.map #[] 0)):=(Below.refl _ w).alloc (Nat.le_refl _) _
 have hv1:=hv.below hA
 have hq1:=hq.keep (Kept.of_below hA _)
 have hm1 : MpAt ptrKey (w.alloc (.map #[] 0)) w.heap.size []:=MpAt.new ptrKey w
 have hB1:=hA.mono hn
 have hmm:=@run_makeMap Tryz.prog
 have HL:=Lib.hid hL
 have HV:=Lib.hid hv1
 have HQ:=Lib.hid hq1
 have HM:=Lib.hid hm1
 have HB1:=Lib.hid hB1
 clear hL hv hq hv1 hq1 hm1 hB1 hA
 go_enter Tryz.func221,Tryz.ntmps221
 go_wp2_with fail
 go_loopw [10] (fun a wr => ∃ (k : Nat) (es : List (Option Addr × Value)),a = .int .i64 k ∧ k ≤ L ∧ HRow wr n (.slice ad L cap) (Ep.hidTo k l h) ∧ MpAt ptrKey wr w.heap.size es ∧ SetsOk wr h es ∧ HidP wr (some q) h ∧ Below n w wr ∧ n ≤ wr.heap.size) (fun a _ => L - (intOf a).toNat)
 case atStart => exact ⟨0,[],rfl,Nat.zero_le _,by rw [Ep.hidTo_zero]; exact HV.out,HM.out,fun x hx => (by cases hx),HQ.out,HB1.out,by simp; omega⟩
 case round =>
  obtain ⟨k,es,rfl,hk,hrow,hmp,hst,hqq,hB,hnr⟩:=hrel
  by_cases hlt : k < L
  ·obtain ⟨x,hx⟩ : ∃ x,l[k]? = some x:=⟨_,List.getElem?_eq_getElem (by rw [← HL.out]; exact hlt)⟩
   have hx':=Ep.hidTo_get h hx
   have hset:=Ep.hidTo_set h hx
   have hlen:=Ep.hidTo_length k l h
   have hat:=hs_some (show Hs wr (.slice ad L cap) (Ep.hidTo k l h) from hrow.hs) hx'
   obtain ⟨g1,o,hg, -, -,p,d6, -,hp⟩:=hat
   obtain ⟨g,hg0⟩ : ∃ g,ad = some ⟨g,0,none⟩:=by
    obtain ⟨cs,hr, -⟩:=hrow
    rcases hr.2 with ⟨h',_⟩ | ⟨g',cap',cur,h',_⟩
    ·rw [hg] at h'; cases h'
    ·injection h' with h'
     exact ⟨g',h'⟩
   rw [hg0] at hg hrow
   subst hg0
   injection hg with hg
   injection hg with e1 e2
   subst e1 e2
   rw [Nat.zero_add] at d6
   have z1 : (0 : Int) ≤ k:=by omega
   have z2 : (k : Int) < L:=by omega
   obtain ⟨cur,hgb,hng⟩:=hrow.block
   have hfz : ∀ j,wr.frozen? ⟨g,j,none⟩ = false:=fun j => by simp [World.frozen?,hgb]
   have hlook:=look_ptr hmp hp hst.keys
   cases hlk : lk p es with
   | some v =>
    obtain ⟨d,rfl,hd⟩:=hst.get hp hlk
    rw [hlk,Option.getD_some] at hlook
    have H1:=Lib.hid (hset ▸ hrow.setHid hx' hd)
    have H2:=Lib.hid (hmp.set (a:=⟨g,k * 8 + 6,none⟩) hgb (.pointer (some d)))
    have H3:=Lib.hid (hst.keep (Kept.set (i:=k * 8 + 6) (u:=.pointer (some d)) hgb (by decide)))
    have H4:=Lib.hid (hqq.keep (Kept.set (i:=k * 8 + 6) (u:=.pointer (some d)) hgb (by decide)))
    have H5:=Lib.hid (hB.setCell (p:=⟨g,k * 8 + 6,none⟩) hng (.pointer (some d)))
    clear hrow hmp hst hqq hB hx hx' hset hlen hp hgb hlk hd
    go_wp2_with fail
    go_roundw
    case rel => exact ⟨k + 1,es,by go_num,by omega,H1.out,H2.out,H3.out,H4.out,H5.out,by simp; omega⟩
    case measure => simp [intOf]; omega
   | none =>
    rw [hlk,Option.getD_none] at hlook
    have KE:=Lib.hid (eeither_any p (some q) x.hd h wr hp hqq)
    have HROW:=Lib.hid hrow
    have HMP:=Lib.hid hmp
    have HST:=Lib.hid hst
    have HQQ:=Lib.hid hqq
    have HB:=Lib.hid hB
    have HX:=Lib.hid hx'
    have HSET:=Lib.hid hset
    have HP:=Lib.hid hp
    have HGB:=Lib.hid hgb
    have HLK:=Lib.hid hlk
    clear hrow hmp hst hqq hB hx hx' hset hlen hp hgb hlk
    go_wp2_with fail
    refine KE.out.mono ?_
    rintro e9 w9 ⟨r,rfl,hr,hne,hb9⟩
    obtain ⟨d,rfl⟩ : ∃ d,r = some d:=by
     cases r with
     | none => exact absurd rfl (hne rfl)
     | some d => exact ⟨d,rfl⟩
    have hmp9:=HMP.out.below hb9
    have hst9:=HST.out.keep (Kept.of_below hb9 _)
    have hp9:=HP.out.keep (Kept.of_below hb9 _)
    obtain ⟨W2,u1,u2,u3⟩:=new_ptr hmp9 hp9 hst9.keys HLK.out (.pointer (some d))
    obtain ⟨arr,clock,hma, -⟩:=hmp9
    have k1:=(Kept.of_below hb9 314).trans (Kept.grown hma u3 314)
    have k2:=(Kept.of_below hb9 379).trans (Kept.grown hma u3 379)
    have k3:=Kept.grown hma u3 379
    have hp2:=HP.out.keep k2
    have hr2:=hr.keep k3
    have hst2 : SetsOk W2 h (es ++ [(p, .pointer (some d))]):=fun y hy => by
     rcases List.mem_append.1 hy with hy | hy
     ·exact HST.out.keep k2 y hy
     ·rw [List.mem_singleton.1 hy]
      exact ⟨_,d,hp2,rfl,hr2⟩
    have hlook2:=look_ptr u2 hp2 hst2.keys
    rw [lk_snoc,HLK.out] at hlook2
    simp only [if_true,Option.getD_some] at hlook2
    have hgb2:=k1 _ _ _ HGB.out
    have hc2 : W2.cell? ⟨g,k * 8 + 6,none⟩ = some (.pointer p):=(World.cell?_of_block (a:=⟨g,k * 8 + 6,none⟩) (hgb2.trans HGB.out.symm)).trans d6
    have hfz2 : ∀ j,W2.frozen? ⟨g,j,none⟩ = false:=fun j => by simp [World.frozen?,hgb2]
    have hrow2:=HROW.out.kept k1 k2
    have hqq2:=HQQ.out.keep k2
    have hB9:=HB.out.trans (hb9.mono hnr)
    have hB2:=grown_below hB9 u3 hn (Nat.le_trans hnr hb9.size)
    have hnr2 : n ≤ W2.heap.size:=Nat.le_trans (Nat.le_trans hnr hb9.size) u3.size
    have H1:=Lib.hid (HSET.out ▸ hrow2.setHid HX.out hr2)
    have H2:=Lib.hid (u2.set (a:=⟨g,k * 8 + 6,none⟩) hgb2 (.pointer (some d)))
    have H3:=Lib.hid (hst2.keep (Kept.set (i:=k * 8 + 6) (u:=.pointer (some d)) hgb2 (by decide)))
    have H4:=Lib.hid (hqq2.keep (Kept.set (i:=k * 8 + 6) (u:=.pointer (some d)) hgb2 (by decide)))
    have H5:=Lib.hid (hB2.setCell (p:=⟨g,k * 8 + 6,none⟩) hng (.pointer (some d)))
    clear hst9 hp9 u2 u3 hma k1 k2 k3 hp2 hr2 hst2 hgb2 hrow2 hqq2 hB9 hB2 hr hne hb9 d6 hfz hlook
    go_wp2_with fail
    go_roundw
    case rel => exact ⟨k + 1,_,by go_num,by omega,H1.out,H2.out,H3.out,H4.out,H5.out,by simp; omega⟩
    case measure => simp [intOf]; omega
  ·obtain rfl : k = L:=by omega
   have hall:=Ep.hidTo_all l h k (by rw [← HL.out]; exact Nat.le_refl _)
   rw [hall] at hrow
   have HR:=Lib.hid hrow
   have HB:=Lib.hid hB
   clear hrow hmp hst hqq hB hall
   go_wp2_with fail
   go_end0
   exact ⟨rfl,HR.out,HB.out⟩
end
section
open Mx (M)
open Ep (HT)
theorem Ep.pcs_length (m : M) : ∀ (f i : Nat),(Ep.pcs m f i).length ≤ f
 | 0,i => by simp [Ep.pcs]
 | f + 1,i => by
  unfold Ep.pcs
  split
  ·have:=Ep.pcs_length m f (if (Ep.pieceOf m i).way = 2 then i + 2 else i + 1)
   simp only [List.length_cons]
   omega
  ·simp
theorem Ep.pieces_length (m : M) : (Ep.pieces m).length ≤ m.body.length:=Ep.pcs_length m _ _
end
section
open Go.RowKit Go.Shelf
open Ep (HT XS)
open Mx (M)
theorem Ep.planIx_lt (j : Nat) : ∀ (l : List Nat) (i q : Nat),Ep.planIx j l i = some q → i ≤ q ∧ q < i + l.length
 | [],i,q,h => by cases h
 | a :: r,i,q,h => by
  rw [Ep.planIx] at h
  split at h
  ·injection h with h; subst h; simp
  ·have:=Ep.planIx_lt j r (i + 1) q h; simp; omega
theorem Ep.planIx_snoc (j k : Nat) : ∀ (l : List Nat) (i : Nat),Ep.planIx j (l ++ [k]) i = match Ep.planIx j l i with | some q => some q | none => if k = j then some (i + l.length) else none
 | [],i => rfl
 | a :: r,i => by
  rw [List.cons_append,Ep.planIx,Ep.planIx]
  by_cases h : a = j
  ·rw [if_pos h,if_pos h]
  ·rw [if_neg h,if_neg h,Ep.planIx_snoc j k r (i + 1),List.length_cons,show i + 1 + r.length = i + (r.length + 1) by omega]
theorem Ep.ixOf_get (s : ByteArray) : ∀ (l : List M) (i j : Nat),Ep.ixOf s l i = some j → i ≤ j ∧ ∃ m,l[j - i]? = some m ∧ m.name = s
 | [],i,j,h => by cases h
 | m :: r,i,j,h => by
  rw [Ep.ixOf] at h
  split at h
  ·rename_i hm
   injection h with h; subst h
   exact ⟨Nat.le_refl _,m,by simp,hm⟩
  ·obtain ⟨h1,m',h2,h3⟩:=Ep.ixOf_get s r (i + 1) j h
   refine ⟨by omega,m',?_,h3⟩
   rw [show j - i = (j - (i + 1)) + 1 by omega,List.getElem?_cons_succ]
   exact h2
theorem Ep.ixOf_some {s : ByteArray} {l : List M} {j : Nat} (h : Ep.ixOf s l 0 = some j) : ∃ m,l[j]? = some m ∧ m.name = s:=by
 obtain ⟨-,m,h2,h3⟩:=Ep.ixOf_get s l 0 j h
 exact ⟨m,by simpa using h2,h3⟩
def okS : Obj → Prop
 | .cells _ t _ => t ≠ 310 ∧ t ≠ 267 ∧ t ≠ 314 ∧ t ≠ 384
 | _ => True
def StayX (W W' : World) : Prop:=∀ (b : Nat) (o : Obj),W.heap[b]? = some o → okS o → W'.heap[b]? = some o
theorem StayX.of_below {W W' : World} (h : Below W.heap.size W W') : StayX W W':=fun b _ hb _ => (h.block b (lt_of_heap hb)).trans hb
theorem StayX.of_fr {N n : Nat} {W W' : World} (h : Fr false N n W W') : StayX W W':=fun b o hb ho => h.block b o hb (.inr (by
 cases o with
 | cells cs t fz => exact ⟨fun e => (by cases e), .inl ⟨ho.1,ho.2.1⟩⟩
 | _ => trivial))
theorem StayX.only1 {B : Nat} {W W' : World} {cs : Array Value} {fz : Nat × Nat} {t : TypeId} (h : Only1 B W W') (hB : W.heap[B]? = some (.cells cs t fz)) (ht : t = 314 ∨ t = 384) : StayX W W':=fun b o hb ho => (h b fun e => by
 subst e
 rw [hB] at hb
 cases hb
 rcases ht with rfl | rfl
 ·exact ho.2.2.1 rfl
 ·exact ho.2.2.2 rfl).trans hb
theorem StayX.kept {W W' : World} (h : StayX W W') {t : TypeId} (h1 : t ≠ 310) (h2 : t ≠ 267) (h3 : t ≠ 314) (h4 : t ≠ 384) : Kept t W W':=fun b _ _ hb => h b _ hb ⟨h1,h2,h3,h4⟩
def KnAt (w0 W : World) (b : Nat) (m : M) (q : Option Nat) : Prop :=
 ∃ pv bv pp,W.heap[b]? = some (.cells #[.string m.name, .bool m.fn,pv, .bool m.va,bv, .pointer pp] 307 (0,0)) ∧ MacV w0 (.agg #[.string m.name, .bool m.fn,pv, .bool m.va,bv]) m ∧ w0.heap.size ≤ b ∧
  ((q = none ∧ pp = none) ∨ ∃ i pb sv uv,q = some i ∧ pp = some ⟨pb,0,none⟩ ∧ PlW W w0.heap.size pb i sv uv (Ep.pieces m) (Ep.pieces m) (m.ps.length + 1))
theorem PlW.stay {W W' : World} {n0 pb num : Nat} {sv uv : Value} {P U : List Ep.Pc} {k : Nat} (h : PlW W n0 pb num sv uv P U k) (hs : StayX W W') : PlW W' n0 pb num sv uv P U k :=
 h.keep (hs.kept (by decide) (by decide) (by decide) (by decide)) (hs.kept (by decide) (by decide) (by decide) (by decide)) (hs.kept (by decide) (by decide) (by decide) (by decide))
theorem KnAt.stay {w0 W W' : World} {b : Nat} {m : M} {q : Option Nat} (h : KnAt w0 W b m q) (hs : StayX W W') : KnAt w0 W' b m q:=by
 obtain ⟨pv,bv,pp,h1,h2,h3,h4⟩:=h
 refine ⟨pv,bv,pp,hs _ _ h1 ⟨by decide,by decide,by decide,by decide⟩,h2,h3,?_⟩
 rcases h4 with h4 | ⟨i,pb,sv,uv,e1,e2,h5⟩
 ·exact .inl h4
 ·exact .inr ⟨i,pb,sv,uv,e1,e2,h5.stay hs⟩
structure XM (w0 W : World) (xb mb : Nat) (kb : Nat → Nat) (ms : List M) (X : XS) : Prop where
 blk : W.heap[xb]? = some (.cells #[.map (some mb), .int .i64 (X.pl.length : Int), .int .i64 (X.steps : Int)] 303 (0,0))
 hx : w0.heap.size ≤ xb
 mp : ∃ es,MpAt strKey W mb es ∧ ∀ s,lk s es = (Ep.ixOf s ms 0).map fun j => Value.pointer (some ⟨kb j,0,none⟩)
 hm : w0.heap.size ≤ mb
 kn : ∀ j m,ms[j]? = some m → Ep.ixOf m.name ms 0 = some j → KnAt w0 W (kb j) m (Ep.planIx j X.pl 0)
 bl : Below w0.heap.size w0 W
 np : X.pl.length ≤ 60
 st : X.steps ≤ 1000
section
variable {w0 W W' : World} {xb mb : Nat} {kb : Nat → Nat} {ms : List M} {X : XS}
theorem XM.stay (h : XM w0 W xb mb kb ms X) (hs : StayX W W') (hb : Below w0.heap.size w0 W') : XM w0 W' xb mb kb ms X:=by
 refine ⟨hs _ _ h.blk ⟨by decide,by decide,by decide,by decide⟩,h.hx,?_,h.hm,fun j m h1 h2 => (h.kn j m h1 h2).stay hs,hb,h.np,h.st⟩
 obtain ⟨es,h1,h2⟩:=h.mp
 refine ⟨es,?_,h2⟩
 obtain ⟨arr,clock,h3,h4⟩:=h1
 exact ⟨arr,clock,hs _ _ h3 trivial,h4⟩
theorem XM.below (h : XM w0 W xb mb kb ms X) (hb : Below W.heap.size W W') : XM w0 W' xb mb kb ms X:=h.stay (StayX.of_below hb) (Below.then h.bl hb)
theorem XM.fr {n : Nat} (h : XM w0 W xb mb kb ms X) (hf : Fr false w0.heap.size n W W') : XM w0 W' xb mb kb ms X:=h.stay (StayX.of_fr hf) (h.bl.trans (hf.below h.bl.size))
theorem XM.look (h : XM w0 W xb mb kb ms X) (s : ByteArray) : (Instr.lookup 301 (.map (some mb)) (.string s) false).run Tryz.prog W = .ok (.pointer ((Ep.ixOf s ms 0).map fun j => ⟨kb j,0,none⟩)) W:=by
 obtain ⟨es,h1,h2⟩:=h.mp
 rw [look_str h1 s,h2]
 cases Ep.ixOf s ms 0 <;> rfl
theorem XM.inj (h : XM w0 W xb mb kb ms X) {i j : Nat} {m m' : M} (hi : ms[i]? = some m) (hi' : Ep.ixOf m.name ms 0 = some i) (hj : ms[j]? = some m') (hj' : Ep.ixOf m'.name ms 0 = some j) (e : kb i = kb j) : i = j:=by
 obtain ⟨_,_,_,h1, -⟩:=h.kn i m hi hi'
 obtain ⟨_,_,_,h2, -⟩:=h.kn j m' hj hj'
 rw [e,h2] at h1
 injection h1 with h1
 injection h1 with h1
 have:=congrArg (fun c => c[0]?) h1
 simp at this
 rw [← this,hj'] at hi'
 injection hi' with hi'
 exact hi'.symm
end
end
end Go.Proofs.YthekfpgegiffoaaGreatDoor
