/- What is proved: what begun makes. (and what stands with it) -/
import Derived.Test.YthekfpgegiffoaaGreatDoorQk
import Derived.Deep.QuietTactic
import Derived.BigQuiet
import Derived.Test.YthekfpgegiffoaaGreatDoorQb
import Derived.IntWalk
import Derived.Shelf.Slices.Turned
import Derived.Test.YthekfpgegiffoaaGreatDoorQf
import Derived.Test.YthekfpgegiffoaaGreatDoorQc
import Derived.Deep.AppendLies
import Derived.BigRegion
import Derived.Test.YthekfpgegiffoaaGreatDoorQi
import Derived.Test.YthekfpgegiffoaaGreatDoorQj
import Derived.Laws.OwnMore
set_option linter.unusedSimpArgs false
set_option linter.unusedVariables false
set_option maxHeartbeats 16000000
set_option maxRecDepth 100000
namespace Go.Proofs.YthekfpgegiffoaaGreatDoor
section
open Go.RowKit Go.Shelf
open Ep (HT XS)
open Mx (M)
theorem Ep.ixOf_snoc (s : ByteArray) (m : M) : ∀ (l : List M) (i : Nat),Ep.ixOf s (l ++ [m]) i = match Ep.ixOf s l i with | some j => some j | none => if m.name = s then some (i + l.length) else none
 | [],i => rfl
 | a :: r,i => by
  rw [List.cons_append,Ep.ixOf,Ep.ixOf]
  by_cases h : a.name = s
  ·rw [if_pos h,if_pos h]
  ·rw [if_neg h,if_neg h,Ep.ixOf_snoc s m r (i + 1),List.length_cons,show i + 1 + r.length = i + (r.length + 1) by omega]
theorem take_snoc {α : Type} {l : List α} {k : Nat} {x : α} (h : l[k]? = some x) : l.take (k + 1) = l.take k ++ [x]:=by
 have hk:=(List.getElem?_eq_some_iff.1 h).1
 rw [List.take_succ_eq_append_getElem hk,(List.getElem?_eq_some_iff.1 h).2]
def MacAt (W : World) (g o : Nat) (m : M) : Prop :=
 ∃ pv bv,W.cell? ⟨g,o,none⟩ = some (.string m.name) ∧ W.cell? ⟨g,o + 1,none⟩ = some (.bool m.fn) ∧ W.cell? ⟨g,o + 2,none⟩ = some pv ∧ W.cell? ⟨g,o + 3,none⟩ = some (.bool m.va) ∧ W.cell? ⟨g,o + 4,none⟩ = some bv ∧ MacV W (.agg #[.string m.name, .bool m.fn,pv, .bool m.va,bv]) m
def MsV (W : World) (v : Value) (ms : List M) : Prop :=
 ∃ ad cap,v = .slice ad ms.length cap ∧ ms.length ≤ cap ∧ cap ≤ maxLen ∧ ∀ i m,ms[i]? = some m → ∃ g o,ad = some ⟨g,o,none⟩ ∧ MacAt W g (o + i * 5) m
theorem XM.start {w0 W : World} {xb mb : Nat} (hb : W.heap[xb]? = some (.cells #[.map (some mb), .int .i64 0, .int .i64 0] 303 (0,0))) (hx : w0.heap.size ≤ xb) (hm : w0.heap.size ≤ mb) (hmp : MpAt strKey W mb []) (hB : Below w0.heap.size w0 W) :
  XM w0 W xb mb (fun _ => 0) [] ⟨[],0⟩ :=
 ⟨hb,hx,⟨[],hmp,fun s => rfl⟩,hm,fun j m h _ => by simp at h,hB,by show 0 ≤ 60; omega,by show 0 ≤ 1000; omega⟩
theorem XM.known {w0 W : World} {xb mb : Nat} {kb : Nat → Nat} {ms : List M} {X : XS} {m : M} {j : Nat} (h : XM w0 W xb mb kb ms X) (hj : Ep.ixOf m.name ms 0 = some j) : XM w0 W xb mb kb (ms ++ [m]) X:=by
 have key : ∀ s,Ep.ixOf s (ms ++ [m]) 0 = Ep.ixOf s ms 0:=fun s => by
  rw [Ep.ixOf_snoc]
  cases hs : Ep.ixOf s ms 0 with
  | some i => rfl
  | none =>
   dsimp only
   by_cases e : m.name = s
   ·rw [← e,hj] at hs; cases hs
   ·rw [if_neg e]
 refine ⟨h.blk,h.hx,?_,h.hm,fun i m' h1 h2 => ?_,h.bl,h.np,h.st⟩
 ·obtain ⟨es,a,b⟩:=h.mp
  exact ⟨es,a,fun s => by rw [b,key]⟩
 ·rw [key] at h2
  obtain ⟨m2,h3, -⟩:=Ep.ixOf_some h2
  have hlt:=(List.getElem?_eq_some_iff.1 h3).1
  rw [List.getElem?_append_left hlt] at h1
  exact h.kn i m' h1 h2
theorem XM.fresh {w0 W W2 W3 : World} {xb mb B : Nat} {kb : Nat → Nat} {ms : List M} {pv bv : Value} {m : M} {es : List (ByteArray × Value)} (h : XM w0 W xb mb kb ms ⟨[],0⟩) (_ : Ep.ixOf m.name ms 0 = none) (hmv : MacV w0 (.agg #[.string m.name, .bool m.fn,pv, .bool m.va,bv]) m)
  (he : ∀ s,lk s es = (Ep.ixOf s ms 0).map fun j => Value.pointer (some ⟨kb j,0,none⟩)) (hB : w0.heap.size ≤ B) (hb : Below W.heap.size W W2) (hbx : W2.heap[B]? = some (.cells #[.string m.name, .bool m.fn,pv, .bool m.va,bv, .pointer none] 307 (0,0)))
  (hmp : MpAt strKey W3 mb (es ++ [(m.name, .pointer (some ⟨B,0,none⟩))])) (hg : W2.grownBy W3 (some mb)) : ∃ kb',XM w0 W3 xb mb kb' (ms ++ [m]) ⟨[],0⟩:=by
 obtain ⟨es0,a0, -⟩:=h.mp
 obtain ⟨arr,clock,hma, -⟩:=a0
 have hma2:=(hb.block mb (lt_of_heap hma)).trans hma
 have hk : ∀ (b : Nat) (cs : Array Value) (t : TypeId) (fz : Nat × Nat),W2.heap[b]? = some (.cells cs t fz) → W3.heap[b]? = some (.cells cs t fz):=fun b cs t fz hbb => (hg.block b (lt_of_heap hbb) (fun e => by
  injection e with e
  rw [e,hma2] at hbb
  cases hbb)).trans hbb
 have hk1 : ∀ (b : Nat) (cs : Array Value) (t : TypeId) (fz : Nat × Nat),W.heap[b]? = some (.cells cs t fz) → W3.heap[b]? = some (.cells cs t fz):=fun b cs t fz hbb => hk b cs t fz ((hb.block b (lt_of_heap hbb)).trans hbb)
 refine ⟨fun j => if j = ms.length then B else kb j,hk1 _ _ _ _ h.blk,h.hx,⟨_,hmp,fun s => ?_⟩,h.hm,fun i m' h1 h2 => ?_,?_,h.np,h.st⟩
 ·rw [lk_snoc,he,Ep.ixOf_snoc]
  cases hs : Ep.ixOf s ms 0 with
  | some i =>
   obtain ⟨m2,h3, -⟩:=Ep.ixOf_some hs
   have hlt:=(List.getElem?_eq_some_iff.1 h3).1
   simp only [Option.map_some]
   rw [if_neg (by omega)]
  | none =>
   simp only [Option.map_none,Nat.zero_add]
   by_cases e : m.name = s
   ·rw [if_pos e,if_pos e,Option.map_some,if_pos rfl]
   ·rw [if_neg e,if_neg e,Option.map_none]
 ·rw [Ep.ixOf_snoc] at h2
  cases hs : Ep.ixOf m'.name ms 0 with
  | some i' =>
   rw [hs] at h2
   injection h2 with h2
   subst h2
   obtain ⟨m2,h3, -⟩:=Ep.ixOf_some hs
   have hlt:=(List.getElem?_eq_some_iff.1 h3).1
   rw [List.getElem?_append_left hlt] at h1
   obtain ⟨pv',bv',pp',b1,b2,b3,b4⟩:=h.kn i' m' h1 hs
   rw [if_neg (by omega)]
   refine ⟨pv',bv',pp',hk1 _ _ _ _ b1,b2,b3,?_⟩
   rcases b4 with b4 | ⟨q,_,_,_,b4,_⟩
   ·exact .inl b4
   ·cases b4
  | none =>
   rw [hs] at h2
   dsimp only at h2
   split at h2
   ·injection h2 with h2
    rw [Nat.zero_add] at h2
    subst h2
    rw [List.getElem?_append_right (Nat.le_refl _),Nat.sub_self] at h1
    simp only [List.getElem?_cons_zero,Option.some.injEq] at h1
    subst h1
    rw [if_pos rfl]
    exact ⟨pv,bv,none,hk _ _ _ _ hbx,hmv,hB, .inl ⟨rfl,rfl⟩⟩
   ·cases h2
 ·have h2:=Below.then h.bl hb
  exact grown_below h2 hg h.hm h2.size
theorem makeMapKn (n : Int) (W : World) : (Instr.makeMap 301 (some (.int .i64 n))).run Tryz.prog W = .ok (.map (some W.heap.size)) (W.alloc (.map #[] 0)):=by
 simp [Instr.makeMap,run_underlying Tryz.underlying301,asInt]
 rfl
def BegunPost (w : World) (ms : List M) (e : Ending) (w' : World) : Prop:=∃ xb mb kb,e = .returned (.pointer (some ⟨xb,0,none⟩)) ∧ XM w w' xb mb kb ms ⟨[],0⟩
theorem ebegun_any (v : Value) (ms : List M) (w : World) (hv : MsV w v ms) (hl : ms.length ≤ 1000000) :
  Calls Tryz.prog 149 #[v] w (BegunPost w ms):=by
 obtain ⟨ad,cap,rfl, -, -, -⟩:=id hv
 obtain ⟨n,hn⟩ : ∃ n,n = ms.length:=⟨_,rfl⟩
 rw [← hn] at hl hv ⊢
 have hA : Below w.heap.size w ((w.alloc (.map #[] 0)).alloc (.cells #[.map (some w.heap.size), .int .i64 0, .int .i64 0] 303)):=((Below.refl _ w).alloc (Nat.le_refl _) _).alloc (by simp) _
 have hm0:=(MpAt.new strKey w).below ((Below.refl _ _).alloc (Nat.le_refl _) (.cells #[.map (some w.heap.size), .int .i64 0, .int .i64 0] 303))
 have hbx:=heap_alloc_new (w.alloc (.map #[] 0)) (.cells #[.map (some w.heap.size), .int .i64 0, .int .i64 0] 303)
 rw [World.size_alloc] at hbx
 have hX0:=XM.start hbx (Nat.le_succ _) (Nat.le_refl _) hm0 hA
 have hmm:=makeMapKn (n : Int) w
 have HX0:=Lib.hid hX0
 have HV:=Lib.hid hv
 have HN:=Lib.hid hn
 clear hv hn hA hm0 hbx hX0
 go_enter Tryz.func149,Tryz.ntmps149
 go_wp2_with fail
 go_loopw [13] (fun a wr => ∃ (k : Nat) (kb : Nat → Nat),a = .int .i64 k ∧ k ≤ n ∧ XM w wr (w.heap.size + 1) w.heap.size kb (ms.take k) ⟨[],0⟩) (fun a _ => n - (intOf a).toNat)
 case atStart => exact ⟨0,_,rfl,Nat.zero_le _,HX0.out⟩
 case round =>
  obtain ⟨k,kb,rfl,hk,hX⟩:=hrel
  by_cases hlt : k < n
  ·obtain ⟨m,hm⟩ : ∃ m,ms[k]? = some m:=⟨_,List.getElem?_eq_getElem (by rw [← HN.out]; exact hlt)⟩
   obtain ⟨ad',cap',e, -, -,h3⟩:=HV.out
   injection e with e1 e2 e3
   obtain ⟨g,o,e4,pv,bv,c0,c1,c2,c3,c4,hmv⟩:=h3 k m hm
   obtain ⟨pa,pn,pc,rfl⟩ : ∃ a n c,pv = .slice a n c:=by
    obtain ⟨pv',bv',epb,⟨a,c,h1, -⟩, -⟩:=id hmv
    simp only [Value.agg.injEq] at epb
    simp at epb
    exact ⟨a,_,c,epb.1.trans h1⟩
   obtain ⟨ba,bn,bc,rfl⟩ : ∃ a n c,bv = .slice a n c:=by
    obtain ⟨pv',bv',epb, -,⟨a,c,h1, -⟩⟩:=id hmv
    simp only [Value.agg.injEq] at epb
    simp at epb
    exact ⟨a,_,c,epb.2.trans h1⟩
   rw [← e1] at e4
   subst e4 e1
   have hlt0:=lt_of_cell c0
   have q : ∀ (j : Nat) (u : Value),w.cell? ⟨g,j,none⟩ = some u → wr.cell? ⟨g,j,none⟩ = some u:=fun j u hu => (hX.bl.cell (p:=⟨g,j,none⟩) hlt0).trans hu
   replace c0:=q _ _ c0
   replace c1:=q _ _ c1
   replace c2:=q _ _ c2
   replace c3:=q _ _ c3
   replace c4:=q _ _ c4
   have hgl : g < wr.heap.size:=lt_of_cell c0
   have hal : Below wr.heap.size wr (wr.alloc (.cells #[.string m.name, .bool m.fn, .slice pa pn pc, .bool m.va, .slice ba bn bc] 168)):=(Below.refl _ wr).alloc (Nat.le_refl _) _
   have hX1:=hX.below hal
   have hbx1:=heap_alloc_new wr (.cells #[.string m.name, .bool m.fn, .slice pa pn pc, .bool m.va, .slice ba bn bc] 168)
   have htk:=take_snoc hm
   obtain ⟨x0,x1,x2, -⟩:=box3_cells hX1.blk
   obtain ⟨m0,m1,m2,m3,m4⟩:=mac_cells hbx1
   have hlook:=fun nn => (hX1.below (Below.drewN (Below.refl _ _) nn)).look m.name
   have z1 : (0 : Int) ≤ k:=by omega
   have z2 : (k : Int) < n:=by omega
   have HX1:=Lib.hid hX1
   have HM:=Lib.hid hmv
   have HTK:=Lib.hid htk
   have HBX:=Lib.hid hbx1
   obtain ⟨nm,fn,ps,va,body⟩:=m
   dsimp only at *
   clear h3 hX hX1 hal q hmv htk hbx1 hm
   cases hix : Ep.ixOf nm (ms.take k) 0 with
   | some j =>
    simp only [hix,Option.map_some] at hlook
    have HIX:=Lib.hid hix
    clear hix
    go_wp2_with fail
    go_quiet (fail)
    go_wp2_with fail
    go_roundw
    case rel => exact ⟨k + 1,kb,by go_num,by omega,by rw [HTK.out]; exact (HX1.out.below (Below.drewN (Below.refl _ _) _)).known HIX.out⟩
    case measure => simp [intOf]; omega
   | none =>
    simp only [hix,Option.map_none] at hlook
    have HIX:=Lib.hid hix
    clear hix
    go_wp2_with fail
    go_quiet (fail)
    go_wp2_with fail
    have hX2:=HX1.out.below (Below.drewN (Below.refl _ _) nq)
    have hbx2 : ((wr.alloc (.cells #[.string nm, .bool fn, .slice pa pn pc, .bool va, .slice ba bn bc] 168)).drewN nq).heap[wr.heap.size]? = _:=HBX.out
    generalize hV : ((wr.alloc (.cells #[.string nm, .bool fn, .slice pa pn pc, .bool va, .slice ba bn bc] 168)).drewN nq) = V at hX2 hbx2 ⊢
    generalize wr.heap.size = B at hbx2 ⊢
    clear hV hlook x0 x1 x2 m0 m1 m2 m3 m4 c0 c1 c2 c3 c4
    obtain ⟨x0,x1,x2, -⟩:=box3_cells hX2.blk
    obtain ⟨m0,m1,m2,m3,m4⟩:=mac_cells hbx2
    obtain ⟨es,hmp,he⟩:=id hX2.mp
    have hal2 : Below V.heap.size V (V.alloc (.cells #[.string nm, .bool fn, .slice pa pn pc, .bool va, .slice ba bn bc, .pointer none] 307)):=(Below.refl _ V).alloc (Nat.le_refl _) _
    have hkb:=heap_alloc_new V (.cells #[.string nm, .bool fn, .slice pa pn pc, .bool va, .slice ba bn bc, .pointer none] 307)
    have hnone : lk nm es = none:=by rw [he,HIX.out]; rfl
    obtain ⟨W3,u1,u2,u3⟩:=new_str (hmp.below hal2.drew) nm hnone (.pointer (some ⟨V.heap.size,0,none⟩))
    have hnew : ∃ kb',XM w W3 (w.heap.size + 1) w.heap.size kb' (ms.take k ++ [⟨nm,fn,ps,va,body⟩]) ⟨[],0⟩:=hX2.fresh HIX.out HM.out he (by have:=hX2.bl.size; exact this) hal2.drew hkb u2 u3
    have HNEW:=Lib.hid hnew
    obtain ⟨y0,y1,y2, -⟩:=box3_cells ((hal2.block _ (lt_of_heap hX2.blk)).trans hX2.blk)
    obtain ⟨n0,n1,n2,n3,n4⟩:=mac_cells ((hal2.block _ (lt_of_heap hbx2)).trans hbx2)
    clear hX2 hbx2 hmp he hal2 hkb hnone u2 u3 hnew
    go_region
    all_goals
     go_wp2_with fail
     go_roundw
     case rel =>
      obtain ⟨kb',h⟩:=HNEW.out
      exact ⟨k + 1,kb',by go_num,by omega,by rw [HTK.out]; exact h⟩
     case measure => simp [intOf]; omega
  ·obtain rfl : k = n:=by omega
   rw [List.take_of_length_le (by rw [← HN.out]; exact Nat.le_refl _)] at hX
   have HX:=Lib.hid hX
   clear hX
   go_wp2_with fail
   go_ret
   exact ⟨_,_,kb,rfl,HX.out⟩
end
namespace Wo
open Go.Lib Go.Proofs.YthekfpgegiffoaaGreatDoor
def has (l : List ByteArray) (x : ByteArray) : Bool:=l.any fun a => decide (a = x)
theorem has_iff (l : List ByteArray) (x : ByteArray) : has l x = true ↔ x ∈ l:=by simp [has]
theorem has_not (l : List ByteArray) (x : ByteArray) : has l x = false ↔ x ∉ l:=by rw [← has_iff]; simp
theorem snoc_ind {α : Type} {p : List α → Prop} (l : List α) (nil : p []) (snoc : ∀ l a,p l → p (l ++ [a])) : p l:=by
 have h : ∀ m : List α,p m.reverse:=by
  intro m
  induction m with
  | nil => exact nil
  | cons a m ih => rw [List.reverse_cons]; exact snoc _ _ ih
 have:=h l.reverse
 rwa [List.reverse_reverse] at this
end Wo
section
open Go.RowKit Go.Shelf
theorem Sts.none_at (W : World) (ad : Option Addr) (cap : Nat) (hc : cap ≤ maxLen) : Sts W (.slice ad 0 cap) [] :=
 ⟨ad,cap,rfl,Nat.zero_le _,hc,fun i s hs => by simp at hs⟩
theorem Sts.cells {W : World} {ad : Option Addr} {n cap : Nat} {ps : List ByteArray} (h : Sts W (.slice ad n cap) ps) (hl : 0 < ps.length) :
  ∃ g o,ad = some ⟨g,o,none⟩ ∧ n = ps.length ∧ ps.length ≤ cap ∧ cap ≤ maxLen ∧ g < W.heap.size ∧ ∀ i s,ps[i]? = some s → W.cell? ⟨g,o + i,none⟩ = some (.string s):=by
 obtain ⟨ad',cap',e,h1,h2,h3⟩:=h
 injection e with e1 e2 e3
 subst e1 e2 e3
 obtain ⟨g,o,rfl,c0⟩:=h3 0 _ (List.getElem?_eq_getElem hl)
 refine ⟨g,o,rfl,rfl,h1,h2,lt_of_cell c0,fun i s hs => ?_⟩
 obtain ⟨g',o',e,c⟩:=h3 i s hs
 injection e with e
 injection e with e1 e2
 subst e1 e2
 exact c
section
variable {W W' : World} {mb n : Nat} {L : List ByteArray}
end
end
section
open Go.RowKit Go.Shelf
namespace Wo
def dfsK (names : List ByteArray) (s k : Nat) : List ByteArray:=(List.range k).filterMap fun i => if s.testBit i then names[i]? else none
def dfs (names : List ByteArray) (set : Int) : List ByteArray:=dfsK names set.toNat names.length
def DefsOk (names : List ByteArray) (set : Int) : Prop:=names.length ≤ 8 ∧ 0 ≤ set ∧ set < 2 ^ names.length
instance (names : List ByteArray) (set : Int) : Decidable (DefsOk names set):=inferInstanceAs (Decidable (_ ∧ _ ∧ _))
def defsL (names : List ByteArray) (set : Int) : List ByteArray:=if DefsOk names set then dfs names set else []
def defsE (names : List ByteArray) (set : Int) : Int:=if DefsOk names set then 0 else 1
theorem dfsK_succ (names : List ByteArray) (s k : Nat) (x : ByteArray) (hx : names[k]? = some x) : dfsK names s (k + 1) = dfsK names s k ++ (if s.testBit k then [x] else []):=by
 unfold dfsK
 rw [List.range_succ,List.filterMap_append]
 cases h : s.testBit k <;> simp [h,hx]
theorem dfsK_len (names : List ByteArray) (s k : Nat) : (dfsK names s k).length ≤ k:=by
 unfold dfsK
 have:=List.length_filterMap_le (fun i => if s.testBit i then names[i]? else none) (List.range k)
 simpa using this
theorem bit_and (s k : Nat) (hs : s < 256) (hk : k < 8) : (Go.bits .and .i64 ((s : Int) / 2 ^ k) 1 == 1) = s.testBit k:=by
 have all : ∀ a : Fin 256,∀ b : Fin 8,(Go.bits .and .i64 ((a.1 : Int) / 2 ^ b.1) 1 == 1) = a.1.testBit b.1:=by decide +kernel
 exact all ⟨s,hs⟩ ⟨k,hk⟩
end Wo
theorem pow_low {N : Nat} (h : N ≤ 8) : (0 : Int) ≤ 2 ^ N ∧ (2 : Int) ^ N ≤ 256:=by
 have hc : N = 0 ∨ N = 1 ∨ N = 2 ∨ N = 3 ∨ N = 4 ∨ N = 5 ∨ N = 6 ∨ N = 7 ∨ N = 8:=by omega
 rcases hc with rfl | rfl | rfl | rfl | rfl | rfl | rfl | rfl | rfl <;> decide
theorem pow_wrap {N : Nat} (h : N ≤ 8) : wrap64 ((2 : Int) ^ N) = 2 ^ N:=by
 have:=pow_low h
 exact IntWalk.wrap64_in _ (by omega)
theorem wdefs_any (v : Value) (names : List ByteArray) (set : Int) (w : World) (hv : Sts w v names) :
  Calls Tryz.prog 19 #[v, .int .i64 set] w fun e w' => ∃ u,e = .returned (.tuple #[u, .int .i64 (Wo.defsE names set)]) ∧ Sts w' u (Wo.defsL names set) ∧ Below w.heap.size w w':=by
 obtain ⟨i0,hi,hz0,hz1,hz2⟩:=info_parts infoStr
 obtain ⟨ad,cap,rfl,hc1,hc2, -⟩:=id hv
 obtain ⟨N,hN⟩ : ∃ N,N = names.length:=⟨_,rfl⟩
 rw [← hN] at hc1 ⊢
 have HN:=Lib.hid hN
 have HV:=Lib.hid hv
 unfold maxLen at hc2
 clear hv hN
 by_cases hok : Wo.DefsOk names set
 ·obtain ⟨h1,h2,h3⟩:=id hok
  rw [← HN.out] at h1 h3
  have hl : Wo.defsL names set = Wo.dfs names set:=by unfold Wo.defsL; rw [if_pos hok]
  have he : Wo.defsE names set = 0:=by unfold Wo.defsE; rw [if_pos hok]
  have hw:=pow_wrap h1
  have hp256:=(pow_low h1).2
  have HP : Hid (set < 256):=Lib.hid (by omega)
  obtain ⟨p,hp⟩ : ∃ p : Int,p = 2 ^ N:=⟨_,rfl⟩
  rw [← hp] at h3
  replace hw : wrap64 ((2 : Int) ^ N) = p:=hw.trans hp.symm
  have HL:=Lib.hid hl
  have HE:=Lib.hid he
  have t1 : ¬ ((8 : Int) < N):=by omega
  have t2 : ¬ (set < 0):=by omega
  have t3 : ¬ (p ≤ set):=by omega
  clear hok hl he hp hp256
  go_enter Tryz.func19,Tryz.ntmps19
  go_wp2_with fail
  go_loopw [6,25] (fun v i wr => ∃ k : Nat,i = .int .i64 k ∧ k ≤ N ∧ wr.ownsRow w.heap.size 9 1 v (Wo.dfsK names set.toNat k).length (strCells (Wo.dfsK names set.toNat k)) ∧ Below w.heap.size w wr) (fun _ i _ => N - (intOf i).toNat)
  case atStart => exact ⟨0,rfl,Nat.zero_le _,World.ownsRow_nil _ _ _ _,Below.refl _ _⟩
  case round =>
   obtain ⟨k,rfl,hk,hrow,hB⟩:=hrel
   by_cases hlt : k < N
   ·obtain ⟨x,hx⟩ : ∃ x,names[k]? = some x:=⟨_,List.getElem?_eq_getElem (by rw [← HN.out]; exact hlt)⟩
    obtain ⟨g,o,rfl, -, -, -,hgl,hcell⟩:=HV.out.cells (by rw [← HN.out]; omega)
    have c0:=(hB.cell (p:=⟨g,o + k,none⟩) hgl).trans (hcell k x hx)
    have hto:=Wo.dfsK_succ names set.toNat k x hx
    have hol:=Wo.dfsK_len names set.toNat k
    have hsn : (set.toNat : Int) = set:=by omega
    have hbit:=Wo.bit_and set.toNat k (by have:=HP.out; omega) (by omega)
    rw [hsn] at hbit
    have HTo:=Lib.hid hto
    have Hol:=Lib.hid hol
    have z1 : (k : Int) < N:=by omega
    obtain ⟨l,hll⟩ : ∃ l,l = Wo.dfsK names set.toNat k:=⟨_,rfl⟩
    rw [← hll] at hrow hol
    obtain ⟨m,hm⟩ : ∃ m,m = l.length:=⟨_,rfl⟩
    rw [← hm] at hrow hol
    have Hll:=Lib.hid hll
    have Hm:=Lib.hid hm
    clear hx hcell hto hsn hll hm
    cases hb : set.toNat.testBit k with
    | true =>
     rw [hb] at hbit
     have hb':=Lib.hid hb
     clear hb
     go_wp2_with (first
      | (at_builtin; refine wpList_append_own _ rfl _ _ 22 rfl w.heap.size 9 i0 (.string ByteArray.empty) 1 16 Tryz.underlying22 hi hz0 hz1 hz2 rfl (by decide) _ _ _ rfl (hrow.alloc _) ⟨wr.heap.size,0,none⟩ 1 1 [.string x] rfl rfl (cell_one_new _ _ _) (by simp [Value.oneCell']) (by unfold maxLen; omega) (by omega) (by have:=hB.size; simp; omega) ?_; intro v' w5 hown5 hg5 hnil5; go_frame)
      | fail)
     go_roundw
     case rel =>
      refine ⟨k + 1,by go_num,by omega,?_,(hB.alloc hB.size _).grown hg5 (by have:=hB.size; simp; omega) (fun j e => (hrow.lt j e).1)⟩
      rw [HTo.out,hb'.out,if_pos rfl,← Hll.out,List.length_append,← Hm.out,strCells_append]
      exact hown5
     case measure => simp [intOf]; omega
    | false =>
     rw [hb] at hbit
     have hb':=Lib.hid hb
     clear hb
     go_wp2_with fail
     go_roundw
     case rel =>
      refine ⟨k + 1,by go_num,by omega,?_,hB⟩
      rw [HTo.out,hb'.out,if_neg (by simp),List.append_nil,← Hll.out,← Hm.out]
      exact hrow
     case measure => simp [intOf]; omega
   ·obtain rfl : k = N:=by omega
    have HR:=Lib.hid hrow
    have HB:=Lib.hid hB
    clear hrow hB
    go_wp2_with fail
    go_ret2
    refine ⟨_,by rw [HE.out]; rfl,?_,HB.out⟩
    rw [HL.out]
    unfold Wo.dfs
    rw [← HN.out]
    exact Sts.of_row HR.out
 ·have hl : Wo.defsL names set = []:=by unfold Wo.defsL; rw [if_neg hok]
  have he : Wo.defsE names set = 1:=by unfold Wo.defsE; rw [if_neg hok]
  have hcs : 8 < N ∨ (N ≤ 8 ∧ set < 0) ∨ (N ≤ 8 ∧ 0 ≤ set ∧ 2 ^ N ≤ set):=by
   rw [HN.out]
   by_cases h1 : names.length ≤ 8
   ·by_cases h2 : 0 ≤ set
    ·exact .inr (.inr ⟨h1,h2,Int.not_lt.1 fun h3 => hok ⟨h1,h2,h3⟩⟩)
    ·exact .inr (.inl ⟨h1,by omega⟩)
   ·exact .inl (by omega)
  have HL:=Lib.hid hl
  have HE:=Lib.hid he
  clear hok hl he
  rcases hcs with h1 | ⟨h1,h2⟩ | ⟨h1,h2,h3⟩
  ·have t1 : (8 : Int) < N:=by omega
   go_enter Tryz.func19,Tryz.ntmps19
   go_wp2_with fail
   go_ret2
   exact ⟨.slice none 0 0,by rw [HE.out]; rfl,by rw [HL.out]; exact Sts.none_at _ _ _ (Nat.zero_le _),Below.refl _ _⟩
  ·have t1 : ¬ ((8 : Int) < N):=by omega
   go_enter Tryz.func19,Tryz.ntmps19
   go_wp2_with fail
   go_ret2
   exact ⟨.slice none 0 0,by rw [HE.out]; rfl,by rw [HL.out]; exact Sts.none_at _ _ _ (Nat.zero_le _),Below.refl _ _⟩
  ·have hw:=pow_wrap h1
   obtain ⟨p,hp⟩ : ∃ p : Int,p = 2 ^ N:=⟨_,rfl⟩
   rw [← hp] at h3
   have hw2 : wrap64 ((2 : Int) ^ N) = p:=hw.trans hp.symm
   have t1 : ¬ ((8 : Int) < N):=by omega
   have t2 : ¬ (set < 0):=by omega
   clear hp hw
   go_enter Tryz.func19,Tryz.ntmps19
   go_wp2_with fail
   go_ret2
   exact ⟨.slice none 0 0,by rw [HE.out]; rfl,by rw [HL.out]; exact Sts.none_at _ _ _ (Nat.zero_le _),Below.refl _ _⟩
end
section
open Go.RowKit Go.Shelf
namespace Wo
def idx (names : List ByteArray) (x : ByteArray) : Nat:=names.findIdx fun y => decide (y = x)
def bitsOf (names : List ByteArray) (ds : List ByteArray) : Nat:=ds.foldl (fun s d => s ||| 2 ^ idx names d) 0
theorem bitsOf_snoc (names ds : List ByteArray) (d : ByteArray) : bitsOf names (ds ++ [d]) = bitsOf names ds ||| 2 ^ idx names d:=by simp [bitsOf]
def SetOk (names ds : List ByteArray) : Prop:=∀ d ∈ ds,d ∈ names
def setV (names ds : List ByteArray) : Int × Int:=if 8 < names.length then (0,1) else if ds.all (has names) then (bitsOf names ds,0) else (0,60)
theorem idx_lt {names : List ByteArray} {x : ByteArray} (h : x ∈ names) : idx names x < names.length:=List.findIdx_lt_length_of_exists ⟨x,h,by simp⟩
theorem bitsOf_lt (names : List ByteArray) (hn : names.length ≤ 8) (ds : List ByteArray) : SetOk names ds → bitsOf names ds < 256:=by
 induction ds using snoc_ind with
 | nil => intro _; show 0 < 256; omega
 | snoc l a ih =>
  intro h
  rw [bitsOf_snoc]
  have h1:=ih fun d hd => h d (by simp [hd])
  have h2:=idx_lt (h a (by simp))
  have h3 : 2 ^ idx names a < 2 ^ 8:=Nat.pow_lt_pow_right (by omega) (by omega)
  exact Nat.or_lt_two_pow (n:=8) h1 h3
end Wo
theorem wrapped (n : Nat) (h : n ≤ 65536) : IntKind.i64.wrap (n : Int) = (n : Int):=IntWalk.i64_in _ (by omega)
theorem or_nat (a b : Nat) (ha : a < 256) (hb : b < 256) : Go.bits .or .i64 (a : Int) (b : Int) = ((a ||| b : Nat) : Int):=by
 have hx : a ||| b < 2 ^ 8:=Nat.or_lt_two_pow (by omega) (by omega)
 have ea : (BitVec.ofInt 64 (a : Int)).toNat = a:=by rw [BitVec.ofInt_natCast,BitVec.toNat_ofNat]; exact Nat.mod_eq_of_lt (by omega)
 have eb : (BitVec.ofInt 64 (b : Int)).toNat = b:=by rw [BitVec.ofInt_natCast,BitVec.toNat_ofNat]; exact Nat.mod_eq_of_lt (by omega)
 show IntKind.i64.wrap ((BitVec.ofInt 64 (a : Int) ||| BitVec.ofInt 64 (b : Int)).toNat : Int) = _
 rw [BitVec.toNat_or,ea,eb]
 exact wrapped _ (by omega)
def idxV (names : List ByteArray) (x : ByteArray) : Int:=if Wo.has names x then (Wo.idx names x : Int) else -1
theorem index_str_any (v : Value) (names : List ByteArray) (x : ByteArray) (w : World) (hv : Sts w v names) :
  Calls Tryz.prog 64 #[v, .string x] w fun e w' => e = .returned (.int .i64 (idxV names x)) ∧ w = w':=by
 have he : Lib.idxOfS names x = idxV names x:=by
  unfold idxV
  cases hh : Wo.has names x with
  | true =>
   have hm:=(Wo.has_iff _ _).1 hh
   have hlt:=Wo.idx_lt hm
   have h1:=Lib.idxOfS_hit names names.length (Wo.idx names x) x hlt (Nat.le_refl _) (by
    rw [List.getD_eq_getElem?_getD,List.getElem?_eq_getElem hlt]
    show names[Wo.idx names x] = x
    exact of_decide_eq_true (List.findIdx_getElem (xs:=names) (w:=hlt))) (fun j hj => by
    have hjl : j < names.length:=Nat.lt_trans hj hlt
    have:=List.not_of_lt_findIdx (p:=fun y => decide (y = x)) (xs:=names) hj
    rw [List.getD_eq_getElem?_getD,List.getElem?_eq_getElem hjl]
    simpa using this)
   rw [List.take_of_length_le (Nat.le_refl _)] at h1
   rw [if_pos rfl]
   exact h1
  | false =>
   have hm:=(Wo.has_not _ _).1 hh
   have h1:=Lib.idxOfS_miss names names.length x (fun j hj e => hm (by
    rw [List.getD_eq_getElem?_getD,List.getElem?_eq_getElem hj] at e
    rw [← e]
    exact List.getElem_mem hj))
   rw [List.take_of_length_le (Nat.le_refl _)] at h1
   rw [if_neg (by simp)]
   exact h1
 obtain ⟨ad,cap,rfl,hc1,hc2,hc⟩:=id hv
 rcases Nat.eq_zero_or_pos names.length with hz | hpos
 ·have h0 : names = []:=List.length_eq_zero_iff.1 hz
  subst h0
  exact (Any.slices_Index_string_empty lays109 ad cap x w).mono fun _ _ h => ⟨by rw [h.1,he],h.2.symm⟩
 ·obtain ⟨g,o,rfl, -, -, -, -,hcell⟩:=hv.cells hpos
  unfold maxLen at hc2
  refine (Any.slices_Index_string lays109 g o names.length cap names x w (Nat.le_refl _) (by omega) (fun j hj => ?_)).mono fun _ _ h => ⟨by rw [h.1,List.take_of_length_le (Nat.le_refl _),he],h.2.symm⟩
  rw [List.getD_eq_getElem?_getD,List.getElem?_eq_getElem hj]
  exact hcell j _ (List.getElem?_eq_getElem hj)
theorem wset_any (v u : Value) (names ds : List ByteArray) (w : World) (hv : Sts w v names) (hu : Sts w u ds) :
  Calls Tryz.prog 114 #[v,u] w fun e w' => e = .returned (.tuple #[.int .i64 (Wo.setV names ds).1, .int .i64 (Wo.setV names ds).2]) ∧ w = w':=by
 have kI:=fun x => index_str_any v names x w hv
 obtain ⟨ad,cap,rfl,hc1,hc2, -⟩:=id hv
 obtain ⟨bd,cbp,rfl,hd1,hd2, -⟩:=id hu
 unfold maxLen at hc2 hd2
 obtain ⟨N,hN⟩ : ∃ N,N = names.length:=⟨_,rfl⟩
 obtain ⟨M,hM⟩ : ∃ M,M = ds.length:=⟨_,rfl⟩
 obtain ⟨R,hR⟩ : ∃ R,R = Wo.setV names ds:=⟨_,rfl⟩
 rw [← hN] at kI hc1
 rw [← hM] at hd1
 rw [← hR,← hN,← hM]
 have HR:=Lib.hid hR
 have HN:=Lib.hid hN
 have HM:=Lib.hid hM
 have hu' : Sts w (.slice bd M cbp) ds:=by rw [hM]; exact hu
 have HU:=Lib.hid hu'
 clear hv hu hu' hN hM hR
 by_cases h8 : 8 < N
 ·have t1 : (8 : Int) < N:=by omega
  have HE : Hid (R = (0,1)):=Lib.hid (by rw [HR.out]; unfold Wo.setV; rw [if_pos (by rw [← HN.out]; exact h8)])
  clear kI
  go_enter Tryz.func114,Tryz.ntmps114
  go_wp2_with fail
  go_ret2
  exact ⟨by rw [HE.out]; rfl,rfl⟩
 ·have t1 : ¬ ((8 : Int) < N):=by omega
  have hnl : names.length ≤ 8:=by rw [← HN.out]; omega
  have HNl:=Lib.hid hnl
  have HE : Hid (R = if ds.all (Wo.has names) then ((Wo.bitsOf names ds : Int),0) else (0,60)):=Lib.hid (by rw [HR.out]; unfold Wo.setV; rw [if_neg (by rw [← HN.out]; exact h8)])
  clear hnl
  go_enter Tryz.func114,Tryz.ntmps114
  go_wp2_with fail
  go_loop [6,15] (fun q i => ∃ k : Nat,i = .int .i64 k ∧ k ≤ M ∧ q = .int .i64 (Wo.bitsOf names (ds.take k)) ∧ Wo.SetOk names (ds.take k)) (fun _ i => M - (intOf i).toNat)
  case atStart => exact ⟨0,rfl,Nat.zero_le _,rfl,fun d hd => by simp at hd⟩
  case round =>
   obtain ⟨k,rfl,hk,rfl,hok⟩:=hrel
   by_cases hlt : k < M
   ·obtain ⟨d,hd⟩ : ∃ d,ds[k]? = some d:=⟨_,List.getElem?_eq_getElem (by rw [← HM.out]; exact hlt)⟩
    obtain ⟨g,o,rfl, -, -, -, -,hcell⟩:=HU.out.cells (by rw [← HM.out]; omega)
    have c0:=hcell k d hd
    have key:=kI d
    unfold idxV at key
    have htk : ds.take (k + 1) = ds.take k ++ [d]:=by rw [List.take_add_one,hd]; rfl
    have hql:=Wo.bitsOf_lt names HNl.out _ hok
    obtain ⟨q,hq⟩ : ∃ q,q = Wo.bitsOf names (ds.take k):=⟨_,rfl⟩
    rw [← hq] at hql ⊢
    have HQ:=Lib.hid hq
    have HOk:=Lib.hid hok
    have HTk:=Lib.hid htk
    have z1 : (k : Int) < M:=by omega
    cases hh : Wo.has names d with
    | true =>
     rw [hh,if_pos rfl] at key
     have hm:=(Wo.has_iff _ _).1 hh
     have hil:=Wo.idx_lt hm
     have h8':=HNl.out
     obtain ⟨i,hi⟩ : ∃ i,i = Wo.idx names d:=⟨_,rfl⟩
     rw [← hi] at key hil
     have hi8 : i < 8:=by omega
     have hp1:=pow_wrap (N:=i) (by omega)
     have hp2 : (2 : Nat) ^ i < 2 ^ 8:=Nat.pow_lt_pow_right (by omega) hi8
     have hp3 : ((2 : Int) ^ i) = ((2 ^ i : Nat) : Int):=by rw [Int.natCast_pow]; rfl
     rw [hp3] at hp1
     obtain ⟨p,hp⟩ : ∃ p,p = 2 ^ i:=⟨_,rfl⟩
     rw [← hp] at hp1 hp2 hp3
     have hor:=or_nat q p hql hp2
     have hw : wrap64 ((2 : Int) ^ i) = p:=by rw [hp3]; exact hp1
     have hqp : q ||| p < 2 ^ 8:=Nat.or_lt_two_pow (n:=8) hql hp2
     have HI:=Lib.hid hi
     have HP:=Lib.hid hp
     have HMm:=Lib.hid hm
     have z2 : ¬ ((i : Int) < 0):=by omega
     clear hd hcell htk hq hok hi hp hh hm hp1 hp3 kI
     go_wp2_with (first | (go_at_call 64; refine key.mono ?_; rintro e w' ⟨rfl,rfl⟩) | fail)
     go_round
     case rel =>
      refine ⟨k + 1,by go_num,by omega,?_,?_⟩
      ·rw [HTk.out,Wo.bitsOf_snoc,← HQ.out,← HI.out,← HP.out]
      ·rw [HTk.out]
       intro y hy
       rcases List.mem_append.1 hy with hy | hy
       ·exact HOk.out y hy
       ·simp at hy; subst hy; exact HMm.out
     case measure => simp [intOf]; omega
    | false =>
     rw [hh,if_neg (by simp)] at key
     have hne : R = (0,60):=by
      rw [HE.out,if_neg]
      intro h
      rw [List.all_eq_true] at h
      rw [h d (List.mem_of_getElem? hd)] at hh
      cases hh
     have HNe:=Lib.hid hne
     clear hd hcell htk hq hok hh hne kI
     go_wp2_with (first | (go_at_call 64; refine key.mono ?_; rintro e w' ⟨rfl,rfl⟩) | fail)
     go_ret2
     exact ⟨by rw [HNe.out]; rfl,rfl⟩
   ·obtain rfl : k = M:=by omega
    have hft : ds.take k = ds:=List.take_of_length_le (by rw [← HM.out]; exact Nat.le_refl _)
    rw [hft] at hok ⊢
    have hal : ds.all (Wo.has names) = true:=List.all_eq_true.2 fun d hd => (Wo.has_iff _ _).2 (hok d hd)
    have hne : R = ((Wo.bitsOf names ds : Int),0):=by rw [HE.out,if_pos hal]
    have HNe:=Lib.hid hne
    obtain ⟨q,hq⟩ : ∃ q,q = Wo.bitsOf names ds:=⟨_,rfl⟩
    rw [← hq]
    have HQ:=Lib.hid hq
    clear hft hok hal hne hq kI
    go_wp2_with fail
    go_ret2
    exact ⟨by rw [HNe.out,← HQ.out]; rfl,rfl⟩
end
namespace Cnd
namespace Ct
inductive T where
 | nil : T
 | cons (l e : Nat) (sub rest : T) : T
namespace T
def len : T → Nat
 | nil => 0
 | cons _ _ _ r => r.len + 1
def app : T → T → T
 | nil,u => u
 | cons l e s r,u => cons l e s (r.app u)
def one (l e : Nat) (s : T) : T:=cons l e s nil
def snoc (t : T) (l e : Nat) (s : T) : T:=t.app (one l e s)
def shb (o : Nat) : Bool → T → T
 | _,nil => nil
 | true,cons l e s r => cons (l + o) (e + o) (shb o false s) (shb o true r)
 | false,cons l e s r => cons (l + o) e (shb o true s) (shb o false r)
theorem app_nil (t : T) : t.app nil = t:=by induction t <;> simp_all [app]
theorem app_assoc (a b c : T) : (a.app b).app c = a.app (b.app c):=by induction a <;> simp_all [app]
theorem len_app (a b : T) : (a.app b).len = a.len + b.len:=by induction a <;> simp_all [app,len]; omega
theorem len_snoc (a : T) (l e : Nat) (s : T) : (a.snoc l e s).len = a.len + 1:=by simp [snoc,one,len_app,len]
theorem len_zero {t : T} (h : t.len = 0) : t = nil:=by cases t <;> simp_all [len]
theorem snoc_ne (a : T) (l e : Nat) (s : T) : a.snoc l e s ≠ nil:=fun h => by have:=len_snoc a l e s; rw [h] at this; simp [len] at this
theorem shb_app (o : Nat) (b : Bool) (x y : T) : shb o b (x.app y) = (shb o b x).app (shb o b y):=by
 induction x generalizing b with
 | nil => simp [app,shb]
 | cons l e s r _ ih => cases b <;> simp [app,shb,ih]
theorem shb_snoc_brs (o : Nat) (x : T) (l e : Nat) (s : T) : shb o false (x.snoc l e s) = (shb o false x).snoc (l + o) e (shb o true s):=by simp [snoc,one,shb_app,shb]
end T
open T
structure Fm where
 line : Nat
 els : Bool
 dn : T
 b : Nat
 cur : T
abbrev S:=T × List Fm
def add (l e : Nat) (s : T) : S → S
 | (out,[]) => (out.snoc l e s,[])
 | (out,f :: r) => (out,⟨f.line,f.els,f.dn,f.b,f.cur.snoc l e s⟩ :: r)
def begins (k : Int) : Bool:=k == 2 || k == 3 || k == 4
def parts (k : Int) : Bool:=k == 5 || k == 6
def noElse : List Fm → Bool
 | [] => true
 | f :: _ => f.els
def isNil : List Fm → Bool
 | [] => true
 | _ :: _ => false
def wrong (k : Int) (st : List Fm) : Bool:=parts k && noElse st || k == 7 && isNil st
def take (i : Nat) (k : Int) (s : S) : S :=
 if begins k then (s.1,⟨i,false,nil,i,nil⟩ :: s.2)
 else if parts k then
  match s.2 with
  | [] => s
  | f :: r => (s.1,⟨f.line,k == 6,f.dn.snoc f.b 0 f.cur,i,nil⟩ :: r)
 else if k == 7 then
  match s.2 with
  | [] => s
  | f :: r => add f.line i (f.dn.snoc f.b 0 f.cur) (s.1,r)
 else add i i nil s
def go : Nat → List Int → S → Nat ⊕ S
 | _,[],s => .inr s
 | i,k :: ks,s => if wrong k s.2 then .inl i else go (i + 1) ks (take i k s)
def fin : Nat ⊕ S → T × Nat × Nat
 | .inl i => (nil,i,50)
 | .inr (_,f :: _) => (nil,f.line,51)
 | .inr (out,[]) => (out,0,0)
def parse (ks : List Int) : T × Nat × Nat:=fin (go 0 ks (nil,[]))
theorem go_append (a b : List Int) : ∀ (i : Nat) (s : S),go i (a ++ b) s = match go i a s with | .inl j => .inl j | .inr s' => go (i + a.length) b s':=by
 induction a with
 | nil => intro i s; simp [go]
 | cons k a ih =>
  intro i s
  simp only [List.cons_append,go,List.length_cons]
  split
  ·rfl
  ·rw [ih]
   rw [show i + 1 + a.length = i + (a.length + 1) by omega]
def shf (o : Nat) (f : Fm) : Fm:=⟨f.line + o,f.els,shb o false f.dn,f.b + o,shb o true f.cur⟩
def emb (o : Nat) (c : S) (s : S) : S :=
 match c.2 with
 | [] => (c.1.app (shb o true s.1),s.2.map (shf o))
 | f :: r => (c.1,s.2.map (shf o) ++ ⟨f.line,f.els,f.dn,f.b,f.cur.app (shb o true s.1)⟩ :: r)
theorem emb_start (o : Nat) (c : S) : emb o c (nil,[]) = c:=by
 obtain ⟨x,r⟩:=c
 cases r <;> simp [emb,shb,app_nil]
theorem add_emb (o l e : Nat) (s : T) (c x : S) : add (l + o) (e + o) (shb o false s) (emb o c x) = emb o c (add l e s x):=by
 obtain ⟨out,st⟩:=x
 obtain ⟨y,r⟩:=c
 cases r <;> cases st <;> simp [emb,add,shf,snoc,app_assoc,shb_app,one,shb]
theorem take_emb (o i : Nat) (k : Int) (c x : S) (h : wrong k x.2 = false) : take (i + o) k (emb o c x) = emb o c (take i k x):=by
 obtain ⟨out,st⟩:=x
 unfold take
 by_cases hb : begins k
 ·rw [if_pos hb,if_pos hb]
  obtain ⟨y,r⟩:=c
  cases r <;> simp [emb,shf,shb]
 ·rw [if_neg hb,if_neg hb]
  by_cases hp : parts k
  ·rw [if_pos hp,if_pos hp]
   cases st with
   | nil => simp [wrong,hp,noElse] at h
   | cons f st =>
    obtain ⟨y,r⟩:=c
    cases r <;> simp [emb,shf,shb_snoc_brs,shb]
  ·rw [if_neg hp,if_neg hp]
   by_cases h7 : k == 7
   ·rw [if_pos h7,if_pos h7]
    cases st with
    | nil => simp [wrong,h7,isNil] at h
    | cons f st =>
     have:=add_emb o f.line i (f.dn.snoc f.b 0 f.cur) c (out,st)
     rw [shb_snoc_brs] at this
     obtain ⟨y,r⟩:=c
     cases r <;> exact this
   ·rw [if_neg h7,if_neg h7]
    exact add_emb o i i nil c (out,st)
theorem wrong_emb (o : Nat) (k : Int) (c x : S) (h : wrong k x.2 = false) : wrong k (emb o c x).2 = false:=by
 obtain ⟨out,st⟩:=x
 obtain ⟨y,r⟩:=c
 cases st with
 | nil =>
  simp only [wrong,noElse,isNil,Bool.and_true,Bool.or_eq_false_iff] at h
  simp [wrong,h]
 | cons f st => cases r <;> simpa [emb,shf,wrong,noElse,isNil] using h
theorem wrong_emb_nil (o : Nat) (k : Int) (y : T) (x : S) : wrong k (emb o (y,[]) x).2 = wrong k x.2:=by
 obtain ⟨out,st⟩:=x
 cases st <;> simp [emb,shf,wrong,noElse,isNil]
theorem go_emb (o : Nat) (c : S) (ks : List Int) : ∀ (i : Nat) (x y : S),go i ks x = .inr y → go (i + o) ks (emb o c x) = .inr (emb o c y):=by
 induction ks with
 | nil => intro i x y h; simp [go] at h ⊢; rw [h]
 | cons k ks ih =>
  intro i x y h
  rw [go] at h ⊢
  by_cases hw : wrong k x.2
  ·rw [if_pos hw] at h; cases h
  ·have hw' : wrong k x.2 = false:=by simpa using hw
   rw [if_neg hw] at h
   rw [wrong_emb o k c x hw',if_neg (by simp),take_emb o i k c x hw',show i + o + 1 = i + 1 + o by omega]
   exact ih _ _ _ h
theorem go_emb_left (o : Nat) (y : T) (ks : List Int) : ∀ (i : Nat) (x : S) (j : Nat),go i ks x = .inl j → go (i + o) ks (emb o (y,[]) x) = .inl (j + o):=by
 induction ks with
 | nil => intro i x j h; simp [go] at h
 | cons k ks ih =>
  intro i x j h
  rw [go] at h ⊢
  rw [wrong_emb_nil]
  by_cases hw : wrong k x.2
  ·rw [if_pos hw] at h ⊢; injection h with h; rw [h]
  ·have hw' : wrong k x.2 = false:=by simpa using hw
   rw [if_neg hw] at h ⊢
   rw [take_emb o i k _ x hw',show i + o + 1 = i + 1 + o by omega]
   exact ih _ _ _ h
theorem parse_ok {ks : List Int} (h : (parse ks).2.2 = 0) : ∃ t,go 0 ks (nil,[]) = .inr (t,[]) ∧ parse ks = (t,0,0):=by
 unfold parse at *
 cases hg : go 0 ks (nil,[]) with
 | inl i => rw [hg] at h; simp [fin] at h
 | inr s =>
  obtain ⟨t,r⟩:=s
  cases r with
  | nil => exact ⟨t,rfl,rfl⟩
  | cons f r => rw [hg] at h; simp [fin] at h
theorem parse_of_go {ks : List Int} {t : T} (h : go 0 ks (nil,[]) = .inr (t,[])) : parse ks = (t,0,0):=by unfold parse; rw [h]; rfl
theorem parse_both (a b : List Int) (x : T) (ha : go 0 a (nil,[]) = .inr (x,[])) :
  ((parse b).2.2 = 0 → ∃ y,parse b = (y,0,0) ∧ parse (a ++ b) = (x.app (shb a.length true y),0,0)) ∧
  ((parse b).2.2 ≠ 0 → parse (a ++ b) = (nil,(parse b).2.1 + a.length,(parse b).2.2)):=by
 have e0 : go 0 (a ++ b) (nil,[]) = go (0 + a.length) b (emb a.length (x,[]) (nil,[])):=by rw [go_append,ha,emb_start]
 cases hb : go 0 b (nil,[]) with
 | inl j =>
  have h1:=go_emb_left a.length x b 0 _ j hb
  refine ⟨fun h => ?_,fun _ => ?_⟩
  ·unfold parse at h; rw [hb] at h; simp [fin] at h
  ·unfold parse; rw [e0,h1,hb]; simp [fin]
 | inr s =>
  have h1:=go_emb a.length (x,[]) b 0 _ s hb
  obtain ⟨y,r⟩:=s
  cases r with
  | nil =>
   refine ⟨fun _ => ⟨y,parse_of_go hb,?_⟩,fun h => ?_⟩
   ·unfold parse; rw [e0,h1]; simp [emb,fin]
   ·exact absurd (by unfold parse; rw [hb]; rfl) h
  | cons f r =>
   refine ⟨fun h => ?_,fun _ => ?_⟩
   ·unfold parse at h; rw [hb] at h; simp [fin] at h
   ·unfold parse; rw [e0,h1,hb]; simp [emb,fin,shf]
def flat : Bool → T → List Nat
 | _,nil => []
 | true,cons l _ nil r => l :: flat true r
 | true,cons _ e (cons l' e' s' r') r => flat false (cons l' e' s' r') ++ e :: flat true r
 | false,cons l _ s r => l :: (flat true s ++ flat false r)
end Ct
end Cnd
namespace Cnd
namespace Ct
open T
def kd (ks : List Int) (i : Nat) : Int:=ks.getD i 0
def plain (k : Int) : Bool:=!begins k && !parts k && !(k == 7)
def G (ks : List Int) : Bool → Nat → T → Nat → Prop
 | _,i,nil,j => i = j
 | true,i,cons l e s r,j => l = i ∧ ((s = nil ∧ e = i ∧ plain (kd ks i) = true ∧ G ks true (i + 1) r j) ∨ (s ≠ nil ∧ begins (kd ks i) = true ∧ G ks false i s e ∧ kd ks e = 7 ∧ G ks true (e + 1) r j))
 | false,i,cons l e s r,j => l = i ∧ e = 0 ∧ ∃ m,G ks true (i + 1) s m ∧ (r ≠ nil → parts (kd ks m) = true) ∧ G ks false m r j
theorem Gle (ks : List Int) (t : T) : ∀ (b : Bool) (i j : Nat),G ks b i t j → i + t.len ≤ j:=by
 induction t with
 | nil => intro b i j h; simp [G] at h; simp [len,h]
 | cons l e s r ihs ihr =>
  intro b i j h
  cases b with
  | true =>
   obtain ⟨rfl,h | h⟩:=h
   ·have:=ihr _ _ _ h.2.2.2; simp [len]; omega
   ·have h1:=ihs _ _ _ h.2.2.1
    have h2:=ihr _ _ _ h.2.2.2.2
    simp [len]; omega
  | false =>
   obtain ⟨rfl,rfl,m,h1,_,h3⟩:=h
   have h1:=ihs _ _ _ h1
   have h2:=ihr _ _ _ h3
   simp [len]; omega
theorem Gapp (ks : List Int) (t u : T) : ∀ (i j k : Nat),G ks true i t j → G ks true j u k → G ks true i (t.app u) k:=by
 induction t with
 | nil => intro i j k h1 h2; simp [G] at h1; subst h1; exact h2
 | cons l e s r _ ihr =>
  intro i j k h1 h2
  obtain ⟨rfl,h | h⟩:=h1
  ·exact ⟨rfl, .inl ⟨h.1,h.2.1,h.2.2.1,ihr _ _ _ h.2.2.2 h2⟩⟩
  ·exact ⟨rfl, .inr ⟨h.1,h.2.1,h.2.2.1,h.2.2.2.1,ihr _ _ _ h.2.2.2.2 h2⟩⟩
theorem Gsnocb (ks : List Int) (t u : T) : ∀ (i j k : Nat),G ks false i t j → (t ≠ nil → parts (kd ks j) = true) → G ks true (j + 1) u k → G ks false i (t.snoc j 0 u) k:=by
 induction t with
 | nil => intro i j k h1 _ h2; simp only [G] at h1; subst h1; exact ⟨rfl,rfl,k,h2,fun h => absurd rfl h,rfl⟩
 | cons l e s r _ ihr =>
  intro i j k h1 hp h2
  obtain ⟨rfl,rfl,m,h3,h4,h5⟩:=h1
  refine ⟨rfl,rfl,m,h3,fun _ => ?_,ihr _ _ _ h5 (fun _ => hp (by simp)) h2⟩
  cases r with
  | nil => simp only [G] at h5; subst h5; exact hp (by simp)
  | cons _ _ _ _ => exact h4 (by simp)
def Up (ks : List Int) : List Fm → Nat → Nat → Prop
 | [],i,j => i = j
 | f :: st,i,j => begins (kd ks f.line) = true ∧ G ks false f.line f.dn f.b ∧ (f.dn ≠ nil → parts (kd ks f.b) = true) ∧ G ks true (f.b + 1) f.cur i ∧ Up ks st f.line j
theorem Up_step (ks : List Int) (k : Int) (s : S) (i j : Nat) (hk : kd ks i = k) (hw : wrong k s.2 = false) (h1 : G ks true 0 s.1 j) (h2 : Up ks s.2 i j) :
  ∃ j',G ks true 0 (take i k s).1 j' ∧ Up ks (take i k s).2 (i + 1) j':=by
 have key : ∀ (l e : Nat) (x : T) (st : List Fm) (out : T) (j : Nat),G ks true 0 out j → Up ks st l j → G ks true l (one l e x) (i + 1) → ∃ j',G ks true 0 (add l e x (out,st)).1 j' ∧ Up ks (add l e x (out,st)).2 (i + 1) j':=by
  intro l e x st out j h1 h2 h3
  cases st with
  | nil => simp only [Up] at h2; subst h2; exact ⟨i + 1,Gapp ks _ _ _ _ _ h1 h3,rfl⟩
  | cons f st => exact ⟨j,h1,h2.1,h2.2.1,h2.2.2.1,Gapp ks _ _ _ _ _ h2.2.2.2.1 h3,h2.2.2.2.2⟩
 obtain ⟨out,st⟩:=s
 unfold take
 by_cases hb : begins k
 ·rw [if_pos hb]
  exact ⟨j,h1,by rw [hk]; exact hb,rfl,fun h => absurd rfl h,rfl,h2⟩
 ·rw [if_neg hb]
  by_cases hp : parts k
  ·rw [if_pos hp]
   cases st with
   | nil => simp [wrong,hp,noElse] at hw
   | cons f st =>
    obtain ⟨a,b,c,d,e⟩:=h2
    exact ⟨j,h1,a,Gsnocb ks _ _ _ _ _ b c d,fun _ => by rw [hk]; exact hp,rfl,e⟩
  ·rw [if_neg hp]
   by_cases h7 : k == 7
   ·rw [if_pos h7]
    cases st with
    | nil => simp [wrong,h7,isNil] at hw
    | cons f st =>
     obtain ⟨a,b,c,d,e⟩:=h2
     exact key _ _ _ _ _ _ h1 e ⟨rfl, .inr ⟨snoc_ne _ _ _ _,a,Gsnocb ks _ _ _ _ _ b c d,by rw [hk]; simpa using h7,rfl⟩⟩
   ·rw [if_neg h7]
    exact key _ _ _ _ _ _ h1 h2 ⟨rfl, .inl ⟨rfl,rfl,by rw [hk]; simp [plain,hb,hp,h7],rfl⟩⟩
theorem Up_go (ks : List Int) (l : List Int) : ∀ (i j : Nat) (s y : S),ks.drop i = l → G ks true 0 s.1 j → Up ks s.2 i j → go i l s = .inr y → ∃ j',G ks true 0 y.1 j' ∧ Up ks y.2 (i + l.length) j':=by
 induction l with
 | nil => intro i j s y _ h1 h2 h; simp [go] at h; subst h; exact ⟨j,h1,h2⟩
 | cons k l ih =>
  intro i j s y hd h1 h2 h
  rw [go] at h
  have hk : kd ks i = k:=by
   have:=congrArg (·[0]?) hd
   simp at this
   simp [kd,this]
  by_cases hw : wrong k s.2
  ·rw [if_pos hw] at h; cases h
  ·rw [if_neg hw] at h
   obtain ⟨j1,a,b⟩:=Up_step ks k s i j hk (by simpa using hw) h1 h2
   have hd' : ks.drop (i + 1) = l:=by rw [← List.drop_drop,hd]; rfl
   obtain ⟨j2,c,d⟩:=ih (i + 1) j1 _ _ hd' a b h
   exact ⟨j2,c,by rw [List.length_cons,show i + (l.length + 1) = i + 1 + l.length by omega]; exact d⟩
theorem Gparse {ks : List Int} {t : T} (h : go 0 ks (nil,[]) = .inr (t,[])) : G ks true 0 t ks.length:=by
 obtain ⟨j,a,b⟩:=Up_go ks ks 0 0 (nil,[]) _ rfl rfl rfl h
 simp only [Up,Nat.zero_add] at b
 rw [b]; exact a
theorem parts_iff (k : Int) : parts k = true ↔ k = 5 ∨ k = 6:=by simp [parts]
end Ct
end Cnd
section
namespace Pm
open Cnd.Ct Cnd.Ct.T
abbrev Ss:=Nat → Bool
def one (b : Bool) : K:=⟨2,⟨#[49]⟩, -1,0,0,b⟩
def sub1 (ds : List ByteArray) (t : K) : K:=if t.kind = 1 ∧ Wo.has ds t.text = true then one t.bl else t
def bareL (l : List K) : List K:=(Ep.lined false l).map (·.t)
def subL (ds : List ByteArray) (l : List K) : List K:=(bareL l).map (sub1 ds)
def value (ds : List ByteArray) (l : List K) : Int × Int :=
 match Ie.defd ds l.length l with
 | none => (0,90)
 | some m => Ie.eval (subL ds m)
def names (ns : List ByteArray) (s : Nat) : List ByteArray:=Wo.dfsK ns s ns.length
def nameOf : List K → Option ByteArray
 | [t] => if t.kind = 1 then some t.text else none
 | _ => none
def words (l : List K) : List ByteArray:=l.filterMap fun t => if t.kind = 1 ∧ ¬ t.text = Ie.DEF then some t.text else none
def firstErr (v : Nat) (f : Nat → Int × Int) (A : Ss) : Option Int:=(List.range (2 ^ v)).findSome? fun s => if A s && (f s).2 != 0 then some (f s).2 else none
def noSet (v : Nat) (A : Ss) : Bool:=(List.range (2 ^ v)).all fun s => !A s
def cond (ns : List ByteArray) (k : Int) (l : List K) (A : Ss) : Except Int Ss :=
 if k < 2 ∨ 6 < k then .error 1
 else if noSet ns.length A then .ok fun _ => false
 else if k = 6 then .ok A
 else if k = 3 ∨ k = 4 then
  match nameOf l with
  | none => .error 60
  | some x => if Wo.has ns x then .ok fun s => A s && (s.testBit (Wo.idx ns x) == decide (k = 3)) else .error 120
 else if !(words l).all (Wo.has ns) then .error 120
 else
  match firstErr ns.length (fun s => value (names ns s) l) A with
  | some e => .error e
  | none => .ok fun s => A s && (value (names ns s) l).1 != 0
abbrev Nn:=Nat → Ss
def put (N : Nn) (i : Nat) (A : Ss) : Nn:=fun j => if j = i then A else N j
def line (ls : List Ln) (i : Nat) : Ln:=ls.getD i ⟨0,0,0,[]⟩
def walk (ns : List ByteArray) (ls : List Ln) : Bool → T → Ss → Ss → Nn → Except (Nat × Int) Nn
 | _,nil,_,_,N => .ok N
 | true,cons _ e s r,A,L,N =>
  match walk ns ls false s A A (put N e A) with
  | .error x => .error x
  | .ok N1 => walk ns ls true r A L N1
 | false,cons l _ s r,A,L,N =>
  match cond ns (line ls l).kind (line ls l).toks L with
  | .error k => .error (l,k)
  | .ok Q =>
   match walk ns ls true s Q Q (put N l A) with
   | .error x => .error x
   | .ok N1 => walk ns ls false r A (fun s => L s && !Q s) N1
def all : Ss:=fun _ => true
def zero : Nn:=fun _ _ => false
def lines (ns : List ByteArray) (ls : List Ln) : Except (Nat × Int) Nn :=
 if (parse (ls.map (·.kind))).2.2 = 0 then walk ns ls true (parse (ls.map (·.kind))).1 all all zero else .error ((parse (ls.map (·.kind))).2.1,(parse (ls.map (·.kind))).2.2)
theorem mem_names {ns : List ByteArray} {s : Nat} {x : ByteArray} : x ∈ names ns s ↔ ∃ i,s.testBit i = true ∧ ns[i]? = some x:=by
 unfold names Wo.dfsK
 simp only [List.mem_filterMap,List.mem_range]
 constructor
 ·rintro ⟨i,hi,h⟩
  cases hb : s.testBit i with
  | false => rw [hb] at h; cases h
  | true => rw [hb] at h; exact ⟨i,hb,h⟩
 ·rintro ⟨i,hb,h⟩
  exact ⟨i,(List.getElem?_eq_some_iff.1 h).1,by rw [hb]; exact h⟩
theorem mem_bits {ns ds : List ByteArray} {i : Nat} : (Wo.bitsOf ns ds).testBit i = true ↔ ∃ d ∈ ds,Wo.idx ns d = i:=by
 induction ds using Wo.snoc_ind with
 | nil => simp [Wo.bitsOf]
 | snoc l a ih =>
  rw [Wo.bitsOf_snoc,Nat.testBit_or,Bool.or_eq_true,ih,Nat.testBit_two_pow,decide_eq_true_iff]
  constructor
  ·rintro (⟨d,hd,h⟩ | h)
   ·exact ⟨d,by simp [hd],h⟩
   ·exact ⟨a,by simp,h⟩
  ·rintro ⟨d,hd,h⟩
   rcases List.mem_append.1 hd with hd | hd
   ·exact .inl ⟨d,hd,h⟩
   ·obtain rfl:=List.mem_singleton.1 hd
    exact .inr h
theorem idx_get {ns : List ByteArray} {x : ByteArray} (h : x ∈ ns) : ns[Wo.idx ns x]? = some x:=by
 have hlt:=Wo.idx_lt h
 rw [List.getElem?_eq_getElem hlt]
 exact congrArg some (of_decide_eq_true (List.findIdx_getElem (xs:=ns) (w:=hlt)))
theorem idx_of {ns : List ByteArray} (hn : ns.Nodup) {i : Nat} {x : ByteArray} (h : ns[i]? = some x) : Wo.idx ns x = i:=by
 obtain ⟨hi,rfl⟩:=List.getElem?_eq_some_iff.1 h
 have hm : ns[i] ∈ ns:=List.getElem_mem hi
 have:=idx_get hm
 obtain ⟨hj,e⟩:=List.getElem?_eq_some_iff.1 this
 exact (List.getElem_inj hn).1 e
def own (ns : List ByteArray) (l : List K) : Nat:=Wo.bitsOf ns (words l)
theorem names_own {ns : List ByteArray} (hn : ns.Nodup) (hd : Ie.DEF ∉ ns) (l : List K) (s : Nat) (t : K) (ht : t ∈ l) (hk : t.kind = 1) : t.text ∈ names ns s ↔ t.text ∈ names ns (s &&& own ns l):=by
 rw [mem_names,mem_names]
 constructor
 ·rintro ⟨i,hb,h⟩
  refine ⟨i,?_,h⟩
  rw [Nat.testBit_and,hb,Bool.true_and]
  refine mem_bits.2 ⟨t.text,?_,idx_of hn h⟩
  refine List.mem_filterMap.2 ⟨t,ht,?_⟩
  rw [if_pos ⟨hk,fun e => hd (by rw [← e]; exact List.mem_of_getElem? h)⟩]
 ·rintro ⟨i,hb,h⟩
  rw [Nat.testBit_and,Bool.and_eq_true] at hb
  exact ⟨i,hb.1,h⟩
theorem has_mem (ns : List ByteArray) (x : ByteArray) : Ie.has ns x = true ↔ x ∈ ns:=by simp [Ie.has]
theorem asked_id {l : List K} {x : ByteArray} {n : Nat} (h : Ie.asked l = some (x,n)) : ∃ t ∈ l,t.kind = 1 ∧ t.text = x:=by
 match l with
 | [] => cases h
 | a :: r =>
  by_cases hk : a.kind = 1
  ·have e : Ie.asked (a :: r) = some (a.text,1):=if_pos hk
   rw [e] at h
   simp only [Option.some.injEq,Prod.mk.injEq] at h
   exact ⟨a,List.mem_cons_self,hk,h.1⟩
  ·match r with
   | [] =>
    have e : Ie.asked [a] = none:=if_neg hk
    rw [e] at h; cases h
   | [b] =>
    have e : Ie.asked [a,b] = none:=if_neg hk
    rw [e] at h; cases h
   | b :: c :: r =>
    have e : Ie.asked (a :: b :: c :: r) = if Ie.isS a Ie.sLp = true ∧ b.kind = 1 ∧ Ie.isS c Ie.sRp = true then some (b.text,3) else none:=if_neg hk
    rw [e] at h
    by_cases hq : Ie.isS a Ie.sLp = true ∧ b.kind = 1 ∧ Ie.isS c Ie.sRp = true
    ·rw [if_pos hq] at h
     simp only [Option.some.injEq,Prod.mk.injEq] at h
     exact ⟨b,by simp,hq.2.1,h.1⟩
    ·rw [if_neg hq] at h; cases h
def Alike (ds es : List ByteArray) (l : List K) : Prop:=∀ t ∈ l,t.kind = 1 → (t.text ∈ ds ↔ t.text ∈ es)
theorem told_alike {ds es : List ByteArray} (t : K) {x : ByteArray} (h : x ∈ ds ↔ x ∈ es) : Ie.told ds t x = Ie.told es t x:=by
 have hh : Ie.has ds x = Ie.has es x:=by
  cases h1 : Ie.has ds x with
  | true => exact ((has_mem es x).2 (h.1 ((has_mem ds x).1 h1))).symm
  | false =>
   cases h2 : Ie.has es x with
   | false => rfl
   | true => rw [(has_mem ds x).2 (h.2 ((has_mem es x).1 h2))] at h1; cases h1
 unfold Ie.told
 rw [hh]
theorem told_kind (ds : List ByteArray) (t : K) (x : ByteArray) : (Ie.told ds t x).kind = 2:=by
 unfold Ie.told
 rfl
theorem defd_alike {ds es : List ByteArray} : ∀ (f : Nat) (l : List K),Alike ds es l → Ie.defd ds f l = Ie.defd es f l
 | 0,_,_ => rfl
 | f + 1,[],_ => rfl
 | f + 1,t :: r,h => by
  have hr : Alike ds es r:=fun u hu => h u (List.mem_cons_of_mem _ hu)
  show (if Ie.isDef t then (match Ie.asked r with | none => none | some (x,n) => (Ie.defd ds f (r.drop n)).map (Ie.told ds t x :: ·)) else (Ie.defd ds f r).map (t :: ·)) = (if Ie.isDef t then (match Ie.asked r with | none => none | some (x,n) => (Ie.defd es f (r.drop n)).map (Ie.told es t x :: ·)) else (Ie.defd es f r).map (t :: ·))
  rw [defd_alike f r hr]
  cases Ie.isDef t with
  | false => rfl
  | true =>
   cases ha : Ie.asked r with
   | none => rfl
   | some y =>
    obtain ⟨x,n⟩:=y
    dsimp only
    obtain ⟨u,hu,hk,rfl⟩:=asked_id ha
    rw [defd_alike f (r.drop n) fun u hu => hr u (List.mem_of_mem_drop hu),told_alike t (hr u hu hk)]
theorem defd_mem {ds : List ByteArray} : ∀ (f : Nat) (l m : List K),Ie.defd ds f l = some m → ∀ t ∈ m,t.kind = 1 → t ∈ l
 | 0,l,m,h => by injection h with h; subst h; exact fun t ht => by cases ht
 | f + 1,[],m,h => by injection h with h; subst h; exact fun t ht => by cases ht
 | f + 1,a :: r,m,h => by
  replace h : (if Ie.isDef a then (match Ie.asked r with | none => none | some (x,n) => (Ie.defd ds f (r.drop n)).map (Ie.told ds a x :: ·)) else (Ie.defd ds f r).map (a :: ·)) = some m:=h
  cases hd : Ie.isDef a with
  | false =>
   rw [hd,if_neg (by decide)] at h
   obtain ⟨m',hm,rfl⟩:=Option.map_eq_some_iff.1 h
   intro t ht hk
   rcases List.mem_cons.1 ht with rfl | ht
   ·exact List.mem_cons_self
   ·exact List.mem_cons_of_mem _ (defd_mem f r m' hm t ht hk)
  | true =>
   rw [hd,if_pos rfl] at h
   cases ha : Ie.asked r with
   | none => rw [ha] at h; cases h
   | some y =>
    obtain ⟨x,n⟩:=y
    rw [ha] at h
    dsimp only at h
    obtain ⟨m',hm,rfl⟩:=Option.map_eq_some_iff.1 h
    intro t ht hk
    rcases List.mem_cons.1 ht with rfl | ht
    ·rw [told_kind] at hk; exact absurd hk (by decide)
    ·exact List.mem_cons_of_mem _ (List.mem_of_mem_drop (defd_mem f (r.drop n) m' hm t ht hk))
theorem bareL_mem : ∀ (b : Bool) (l : List K) (t : K),t ∈ (Ep.lined b l).map (·.t) → ∃ u ∈ l,t.kind = u.kind ∧ t.text = u.text
 | _,[],t,h => by cases h
 | b,a :: r,t,h => by
  rw [Ep.lined] at h
  split at h
  ·obtain ⟨u,hu,e⟩:=bareL_mem true r t h
   exact ⟨u,List.mem_cons_of_mem _ hu,e⟩
  ·rw [List.map_cons] at h
   rcases List.mem_cons.1 h with rfl | h
   ·exact ⟨a,List.mem_cons_self,rfl,rfl⟩
   ·obtain ⟨u,hu,e⟩:=bareL_mem false r t h
    exact ⟨u,List.mem_cons_of_mem _ hu,e⟩
theorem subL_alike {ds es : List ByteArray} {l : List K} (h : Alike ds es l) : subL ds l = subL es l:=by
 unfold subL
 refine List.map_congr_left fun t ht => ?_
 obtain ⟨u,hu,e1,e2⟩:=bareL_mem false l t ht
 unfold sub1
 by_cases hk : t.kind = 1
 ·have:=h u hu (e1 ▸ hk)
  rw [← e2,← Wo.has_iff,← Wo.has_iff] at this
  simp only [hk,true_and,this]
 ·rw [if_neg fun x => hk x.1,if_neg fun x => hk x.1]
theorem value_alike {ds es : List ByteArray} {l : List K} (h : Alike ds es l) : value ds l = value es l:=by
 unfold value
 rw [defd_alike l.length l h]
 cases hm : Ie.defd es l.length l with
 | none => rfl
 | some m =>
  dsimp only
  rw [subL_alike fun t ht hk => h t (defd_mem _ _ _ hm t ht hk) hk]
theorem value_own {ns : List ByteArray} (hn : ns.Nodup) (hd : Ie.DEF ∉ ns) (l : List K) (s : Nat) : value (names ns (s &&& own ns l)) l = value (names ns s) l :=
 value_alike fun t ht hk => (names_own hn hd l s t ht hk).symm
end Pm
end
section
open Go.RowKit Go.Shelf
open Mx (M)
structure Nm (x : ByteArray) : Prop where
 one : ∃ t,oneOf x.data.toList = some t ∧ t.kind = 1
 df : x ≠ Ie.DEF
 va : x ≠ Mx.VA
 sz : x.size ≤ 1000
theorem Nm.tok {x : ByteArray} (h : Nm x) : ∃ t,oneOf x.data.toList = some t ∧ t.kind = 1 ∧ (⟨t.text.toArray⟩ : ByteArray) = x:=by
 obtain ⟨t,h1,h2⟩:=h.one
 refine ⟨t,h1,h2,?_⟩
 unfold oneOf at h1
 split at h1
 ·rename_i y hy
  split at h1
  ·rename_i hc
   injection h1 with h1
   subst h1
   have:=(Lx.one_full _ _ hy hc.2).1
   rw [this]
  ·cases h1
 ·cases h1
def mac (x : ByteArray) : M:=⟨x,false,[],false,[Pm.one false]⟩
theorem definable_any (x : ByteArray) (h1 : x ≠ Ie.DEF) (h2 : x ≠ Mx.VA) (f a b : Int) (l : Bool) (w : World) : Calls Tryz.prog 77 #[.agg #[.int .i64 1, .string x, .int .i64 f, .int .i64 a, .int .i64 b, .bool l]] w fun e w' => e = .returned (.bool true) ∧ Below w.heap.size w w':=by
 have e1 : (x.toList == [100,101,102,105,110,101,100]) = false:=lit_no h1
 have e2 : (x.toList == [95,95,86,65,95,65,82,71,83,95,95]) = false:=lit_no h2
 have hB : Below w.heap.size w (w.alloc (.cells #[.int .i64 1, .string x, .int .i64 f, .int .i64 a, .int .i64 b, .bool l] 63)):=(Below.refl _ w).alloc (Nat.le_refl _) _
 have HB:=Lib.hid hB
 clear hB h1 h2
 go_enter Tryz.func77,Tryz.ntmps77
 go_wp2_with fail
 go_ret
 exact ⟨rfl,HB.out⟩
def mcC (x : ByteArray) (b : Nat) : List Value:=[.string x, .bool false, .slice none 0 0, .bool false, .slice (some ⟨b,0,none⟩) 1 1]
def mcCells : List ByteArray → List Nat → List Value
 | x :: ns,b :: bs => mcC x b ++ mcCells ns bs
 | _,_ => []
theorem mcCells_snoc : ∀ (ns : List ByteArray) (bs : List Nat) (x : ByteArray) (b : Nat),ns.length = bs.length → mcCells (ns ++ [x]) (bs ++ [b]) = mcCells ns bs ++ mcC x b
 | [],[],x,b,_ => by simp [mcCells]
 | y :: ns,c :: bs,x,b,h => by
  have:=mcCells_snoc ns bs x b (by simpa using h)
  simp [mcCells,this]
theorem mcCells_get : ∀ (ns : List ByteArray) (bs : List Nat) i x b,ns[i]? = some x → bs[i]? = some b → ∀ j u,(mcC x b)[j]? = some u → (mcCells ns bs)[i * 5 + j]? = some u
 | [],bs,i,x,b,h,_ => by simp at h
 | y :: ns,[],i,x,b,_,h => by simp at h
 | y :: ns,c :: bs,i,x,b,h1,h2 => by
  intro j u hj
  have hlt : j < 5:=(List.getElem?_eq_some_iff.1 hj).1
  cases i with
  | zero =>
   simp at h1 h2
   subst h1 h2
   rw [mcCells,List.getElem?_append_left (by simpa [mcC] using hlt),Nat.zero_mul,Nat.zero_add]
   exact hj
  | succ i =>
   simp at h1 h2
   rw [mcCells,List.getElem?_append_right (by simp [mcC]; omega)]
   have:=mcCells_get ns bs i x b h1 h2 j u hj
   rw [show (i + 1) * 5 + j - (mcC y c).length = i * 5 + j by simp [mcC]; omega]
   exact this
def bodyCells : Array Value:=#[.int .i64 2, .string ⟨#[49]⟩, .int .i64 (-1), .int .i64 0, .int .i64 0, .bool false]
structure McR (W : World) (base : Nat) (v : Value) (ns : List ByteArray) (bs : List Nat) : Prop where
 row : W.ownsRow base 168 5 v ns.length (mcCells ns bs)
 len : ns.length = bs.length
 bd : ∀ (i : Nat) (b : Nat),bs[i]? = some b → W.heap[b]? = some (.cells bodyCells 63 (0,0))
theorem McR.msv {W : World} {base : Nat} {v : Value} {ns : List ByteArray} {bs : List Nat} (h : McR W base v ns bs) : MsV W v (ns.map mac):=by
 have hc:=fun g => h.row.cells (g:=g)
 rcases h.row.2 with ⟨rfl,h0⟩ | ⟨g,cap,cur,rfl,_,_,h1,h2,_,_⟩
 ·have : ns = []:=List.length_eq_zero_iff.1 h0
  subst this
  exact ⟨none,0,rfl,Nat.le_refl _,Nat.zero_le _,fun i m hm => by simp at hm⟩
 ·refine ⟨some ⟨g,0,none⟩,cap,by rw [List.length_map],by rw [List.length_map]; exact h1,h2,fun i m hm => ⟨g,0,rfl,?_⟩⟩
  obtain ⟨x,hx,rfl⟩ : ∃ x,ns[i]? = some x ∧ mac x = m:=by
   rw [List.getElem?_map] at hm
   cases hn : ns[i]? with
   | none => rw [hn] at hm; cases hm
   | some x => rw [hn] at hm; injection hm with hm; exact ⟨x,rfl,hm⟩
  have hi:=(List.getElem?_eq_some_iff.1 hx).1
  obtain ⟨b,hb⟩ : ∃ b,bs[i]? = some b:=⟨_,List.getElem?_eq_getElem (by rw [← h.len]; exact hi)⟩
  have key : ∀ j u,(mcC x b)[j]? = some u → W.cell? ⟨g,0 + i * 5 + j,none⟩ = some u:=fun j u hj => by
   have:=hc g rfl (i * 5 + j) u (mcCells_get ns bs i x b hx hb j u hj)
   rw [add_none] at this
   rw [Nat.add_assoc]
   exact this
  have hbd:=h.bd i b hb
  have hk : Ks W (.slice (some ⟨b,0,none⟩) 1 1) [Pm.one false]:=by
   refine ⟨_,1,rfl,Nat.le_refl _,by unfold maxLen; omega,fun k t ht => ⟨b,0,rfl,?_⟩⟩
   obtain rfl : k = 0:=by
    have:=(List.getElem?_eq_some_iff.1 ht).1
    simp at this
    exact this
   simp at ht
   subst ht
   exact ⟨(Lib.cell_of_heap hbd 0).trans rfl,(Lib.cell_of_heap hbd 1).trans rfl,(Lib.cell_of_heap hbd 2).trans rfl,(Lib.cell_of_heap hbd 3).trans rfl,(Lib.cell_of_heap hbd 4).trans rfl,(Lib.cell_of_heap hbd 5).trans rfl⟩
  have hs : Sts W (.slice none 0 0) []:=⟨none,0,rfl,Nat.le_refl _,Nat.zero_le _,fun i s hs => by simp at hs⟩
  exact ⟨.slice none 0 0, .slice (some ⟨b,0,none⟩) 1 1,key 0 _ rfl,key 1 _ rfl,key 2 _ rfl,key 3 _ rfl,key 4 _ rfl,_,_,rfl,hs,hk⟩
theorem infoMac : (Tryz.prog.info? 168).map (fun i => (i.zero,i.size,i.bytes)) = some (some (.agg #[.string ByteArray.empty, .bool false, .slice none 0 0, .bool false, .slice none 0 0]),5,80):=by kernel_rfl
def FirstPost (w : World) (ns : List ByteArray) (e : Ending) (w' : World) : Prop:=∃ u,e = .returned (.tuple #[u, .int .i64 0]) ∧ MsV w' u (ns.map mac) ∧ Below w.heap.size w w'
structure FI (w : World) (ns : List ByteArray) (k : Nat) (o : Value) (wr : World) (bs : List Nat) : Prop where
 nm : Nms wr w.heap.size (ns.take k)
 rw : McR wr (w.heap.size + 1) o (ns.take k) bs
 bl : Below w.heap.size w wr
theorem FI.below {w wr w2 : World} {ns : List ByteArray} {k : Nat} {o : Value} {bs : List Nat} (h : FI w ns k o wr bs) (hB : Below wr.heap.size wr w2) : FI w ns k o w2 bs :=
 ⟨h.nm.keep hB,⟨row_below h.rw.row hB,h.rw.len,fun i b hb => (hB.block _ (lt_of_heap (h.rw.bd i b hb))).trans (h.rw.bd i b hb)⟩,Below.then h.bl hB⟩
theorem FI.add {w W' w7 : World} {ns : List ByteArray} {x : ByteArray} {k : Nat} {o : Value} {bs : List Nat} {gg cap' : Nat} (hnm : Nms W' w.heap.size (ns.take (k + 1))) (hrw : McR W' (w.heap.size + 1) o (ns.take k) bs) (hb : Below w.heap.size w W')
  (htk : ns.take (k + 1) = ns.take k ++ [x]) (hlen : (ns.take k).length = k)
  (hown : w7.ownsRow (w.heap.size + 1) 168 5 (.slice (some ⟨gg,0,none⟩) (k + 1) cap') (k + 1) (mcCells (ns.take k) bs ++ mcC x W'.heap.size))
  (hg : ((W'.alloc (.cells #[.int .i64 2, .string ⟨#[49]⟩, .int .i64 (-1), .int .i64 0, .int .i64 0, .bool false] 63)).alloc (.cells #[.string x, .bool false, .slice none 0 0, .bool false, .slice (some ⟨W'.heap.size,0,none⟩) 1 1] 168)).grownBy w7 o.ownBlock) :
  FI w ns (k + 1) (.slice (some ⟨gg,0,none⟩) (k + 1) cap') w7 (bs ++ [W'.heap.size]):=by
 have hq1 : Below W'.heap.size W' (W'.alloc (.cells #[.int .i64 2, .string ⟨#[49]⟩, .int .i64 (-1), .int .i64 0, .int .i64 0, .bool false] 63)):=(Below.refl _ W').alloc (Nat.le_refl _) _
 have hq2:=hq1.alloc hq1.size (.cells #[.string x, .bool false, .slice none 0 0, .bool false, .slice (some ⟨W'.heap.size,0,none⟩) 1 1] 168)
 have hob:=heap_alloc2_old W' (.cells #[.int .i64 2, .string ⟨#[49]⟩, .int .i64 (-1), .int .i64 0, .int .i64 0, .bool false] 63) (.cells #[.string x, .bool false, .slice none 0 0, .bool false, .slice (some ⟨W'.heap.size,0,none⟩) 1 1] 168)
 refine ⟨(hnm.keep hq2).grown hg (fun e => by have:=(hrw.row.lt _ e).1; omega),⟨?_,by simp [htk,hrw.len],fun i b hib => ?_⟩,?_⟩
 ·rw [htk,List.length_append,hlen,mcCells_snoc _ _ _ _ hrw.len]
  exact hown
 ·have hne : ∀ b,(∃ fz,((W'.alloc (.cells #[.int .i64 2, .string ⟨#[49]⟩, .int .i64 (-1), .int .i64 0, .int .i64 0, .bool false] 63)).alloc (.cells #[.string x, .bool false, .slice none 0 0, .bool false, .slice (some ⟨W'.heap.size,0,none⟩) 1 1] 168)).heap[b]? = some (.cells bodyCells 63 fz)) → some b ≠ o.ownBlock:=fun b ⟨fz,h1⟩ e => by
   rcases hrw.row.2 with ⟨h',_⟩ | ⟨g',cap',cur,h',_,h2,_⟩
   ·rw [h'] at e; cases e
   ·rw [h'] at e
    injection e with e
    rw [e,(hq2.block g' (lt_of_heap h2)),h2] at h1
    injection h1 with h1
    injection h1 with _ h1
    exact absurd h1 (by decide)
  rcases Nat.lt_trichotomy i bs.length with hi | hi | hi
  ·rw [List.getElem?_append_left hi] at hib
   have h1:=hrw.bd i b hib
   have h2:=(hq2.block b (lt_of_heap h1)).trans h1
   exact (hg.block b (lt_of_heap h2) (hne b ⟨_,h2⟩)).trans h2
  ·rw [List.getElem?_append_right (by omega),hi,Nat.sub_self] at hib
   simp at hib
   subst hib
   exact (hg.block _ (lt_of_heap hob) (hne _ ⟨_,hob⟩)).trans hob
  ·rw [List.getElem?_eq_none (by simp; omega)] at hib; cases hib
 ·exact (hb.trans (hq2.mono hb.size)).grown hg (by have:=hb.size; have:=hq2.size; omega) fun i e => by have:=(hrw.row.lt i e).1; omega
theorem ufirst_any (v : Value) (ns : List ByteArray) (w : World) (hv : Sts w v ns) (hG : Glob w) (hn : ns.length ≤ 8) (hd : ns.Nodup) (hN : ∀ x ∈ ns,Nm x) : Calls Tryz.prog 42 #[v] w (FirstPost w ns):=by
 obtain ⟨i0,hi,hz0,hz1,hz2⟩:=info_parts infoMac
 obtain ⟨ad,cap,rfl,hc1,hc2, -⟩:=id hv
 obtain ⟨n,hnn⟩ : ∃ n,n = ns.length:=⟨_,rfl⟩
 rw [← hnn] at hv hc1 hn
 rw [← hnn]
 have HNN:=Lib.hid hnn
 have HV:=Lib.hid hv
 have HG:=Lib.hid hG
 have HD:=Lib.hid hd
 have HN:=Lib.hid hN
 unfold maxLen at hc2
 have hmm:=@run_makeMap Tryz.prog
 clear hv hG hd hN hnn
 go_enter Tryz.func42,Tryz.ntmps42
 go_wp2_with fail
 have hB1 : Below w.heap.size w (w.alloc (.map #[] 0)):=Below.alloc (Below.refl _ _) (Nat.le_refl _) _
 have hF0 : FI w ns 0 (.slice none 0 0) (w.alloc (.map #[] 0)) []:=⟨nms_made w,⟨World.ownsRow_nil _ _ _ _,rfl,fun i b h => by simp at h⟩,hB1⟩
 have HF0:=Lib.hid hF0
 clear hB1 hmm hF0
 go_loopw [4,15] (fun o a wr => ∃ (k : Nat) (bs : List Nat),a = .int .i64 k ∧ k ≤ n ∧ FI w ns k o wr bs) (fun _ a _ => n - (intOf a).toNat)
 case atStart => exact ⟨0,[],rfl,Nat.zero_le _,HF0.out⟩
 case round =>
  obtain ⟨k,bs,rfl,hk,hF⟩:=hrel
  by_cases hlt : k < n
  ·have hkl : k < ns.length:=by rw [← HNN.out]; exact hlt
   obtain ⟨x,hx⟩ : ∃ x,ns[k]? = some x:=⟨_,List.getElem?_eq_getElem hkl⟩
   have hnm:=HN.out x (List.mem_of_getElem? hx)
   obtain ⟨t,ht1,ht2,ht3⟩:=hnm.tok
   obtain ⟨ad',cap',e, -, -,h3⟩:=HV.out.below hF.bl
   injection e with e1 e2 e3
   subst e1
   obtain ⟨g,o',rfl,c0⟩:=h3 k x hx
   have htk : ns.take (k + 1) = ns.take k ++ [x]:=by
    obtain ⟨h1,h2⟩:=List.getElem?_eq_some_iff.1 hx
    rw [List.take_succ_eq_append_getElem h1,h2]
   have hnot : Ie.has (ns.take k) x = false:=by
    cases hh : Ie.has (ns.take k) x with
    | false => rfl
    | true =>
     have hm:=(Pm.has_mem _ _).1 hh
     have h5 : (ns.take (k + 1)).Nodup:=HD.out.sublist (List.take_sublist _ _)
     rw [htk,List.nodup_append] at h5
     exact absurd rfl (h5.2.2 x hm x (by simp))
   have hsz:=hnm.sz
   have hxm : x.size ≤ maxLen:=by unfold maxLen; omega
   have KO0:=one_any x (by omega) wr (HG.out.later hF.bl)
   rw [ht1] at KO0
   obtain ⟨td,tt,tf,te,tb⟩:=t
   dsimp only at ht2 ht3
   have KO : Hid (Calls Tryz.prog 76 #[.string x] wr fun e w' => e = .returned (.tuple #[.agg #[.int .i64 1, .string x, .int .i64 0, .int .i64 tf, .int .i64 te, .bool tb], .bool true]) ∧ Below wr.heap.size wr w'):=Lib.hid (KO0.mono fun e w' h => ⟨by rw [h.1]; show Ending.returned (.tuple #[tokAgg 0 ⟨td,tt,tf,te,tb⟩, .bool true]) = _; unfold tokAgg; dsimp only; rw [ht2,ht3]; rfl,h.2⟩)
   have HF:=Lib.hid hF
   have HTK:=Lib.hid htk
   have HNOT:=Lib.hid hnot
   have HXM:=Lib.hid hxm
   have HNM:=Lib.hid hnm
   have z1 : (0 : Int) ≤ k:=by omega
   have z2 : (k : Int) < n:=by omega
   clear hx h3 htk hnot hF hnm ht1 ht2 ht3 hxm hsz e2 e3 KO0
   go_wp2_with fail
   refine KO.out.mono ?_
   rintro e w2 ⟨rfl,hB2⟩
   have hF2:=HF.out.below hB2
   have hB3 : Below w2.heap.size w2 (w2.alloc (.cells #[.int .i64 1, .string x, .int .i64 0, .int .i64 tf, .int .i64 te, .bool tb] 63)):=(Below.refl _ w2).alloc (Nat.le_refl _) _
   have HF3:=Lib.hid (hF2.below hB3)
   clear hB2 hB3 hF2 c0
   go_wp2_with fail
   refine (definable_any x HNM.out.df HNM.out.va 0 tf te tb _).mono ?_
   rintro e w4 ⟨rfl,hB4⟩
   have hF4:=HF3.out.below hB4
   have hl4:=hF4.nm.look x HXM.out
   rw [HNOT.out] at hl4
   have hB5 : Below w4.heap.size w4 (w4.alloc (.cells #[] 165)):=(Below.refl _ w4).alloc (Nat.le_refl _) _
   have hF5:=hF4.below hB5
   have HF5:=Lib.hid hF5
   obtain ⟨W',r1,hN',hgr⟩:=hF5.nm.put x HXM.out (by rw [List.length_take]; unfold maxLen; omega)
   rw [← HTK.out] at hN'
   have hmb:=HF5.out.nm
   have hrw : McR W' (w.heap.size + 1) u4 (ns.take k) bs:=⟨hF5.rw.row.kept hgr (.inr fun e => by have:=(hF5.rw.row.lt _ e).1; omega),hF5.rw.len,fun i b hb => by
    have h1:=hF5.rw.bd i b hb
    refine (hgr.block b (lt_of_heap h1) fun e => ?_).trans h1
    injection e with e
    obtain ⟨nn,D,⟨es,clock,ho,_⟩,_⟩:=hmb
    rw [← e,h1] at ho
    cases ho⟩
   have hb6 : Below w.heap.size w W':=hF5.bl.grown hgr hF5.bl.size (fun i e => by cases e; exact Nat.le_refl _)
   have HN':=Lib.hid hN'
   have HRW:=Lib.hid hrw
   have HB6:=Lib.hid hb6
   have hq1 : Below W'.heap.size W' (W'.alloc (.cells #[.int .i64 2, .string ⟨#[49]⟩, .int .i64 (-1), .int .i64 0, .int .i64 0, .bool false] 63)):=(Below.refl _ W').alloc (Nat.le_refl _) _
   have hq2:=hq1.alloc hq1.size (.cells #[.string x, .bool false, .slice none 0 0, .bool false, .slice (some ⟨W'.heap.size,0,none⟩) 1 1] 168)
   have HQ2:=Lib.hid hq2
   have hob1:=heap_alloc2_old W' (.cells #[.int .i64 2, .string ⟨#[49]⟩, .int .i64 (-1), .int .i64 0, .int .i64 0, .bool false] 63) (.cells #[.string x, .bool false, .slice none 0 0, .bool false, .slice (some ⟨W'.heap.size,0,none⟩) 1 1] 168)
   have HOB:=Lib.hid hob1
   have hrow:=hrw.row
   have hlen : (ns.take k).length = k:=by rw [List.length_take]; omega
   rw [hlen] at hrow
   have HROW:=Lib.hid (row_below hrow hq2)
   obtain ⟨om,on,oc,rfl⟩ : ∃ a n c,u4 = .slice a n c:=by
    rcases hrow.2 with ⟨h',_⟩ | ⟨g',cap',cur,h',_⟩
    ·exact ⟨_,_,_,h'⟩
    ·exact ⟨_,_,_,h'⟩
   have HBS:=Lib.hid hrw.len
   have hws:=hb6.size
   clear hB4 hF4 hB5 hF5 hN' hgr hmb hrw hb6 hq1 hq2 hob1 hrow
   go_wp2_with (at_builtin; refine wpList_append_lies _ rfl _ _ 95 rfl (w.heap.size + 1) 168 i0 _ 5 80 Tryz.underlying95 hi hz0 hz1 hz2 rfl (by decide) _ k (mcCells (ns.take k) bs) rfl HROW.out ⟨W'.heap.size + 1,0,none⟩ 1 1 (mcC x W'.heap.size) rfl rfl (World.news_of_block (cs:=#[.string x, .bool false, .slice none 0 0, .bool false, .slice (some ⟨W'.heap.size,0,none⟩) 1 1]) (t:=168) (fr:=(0,0)) (heap_alloc2_new W' _ _)) (by simp [Value.oneCell',mcC]) (by decide) (by unfold maxLen; omega) (by omega) (by simp; omega) _ rfl ?_; intro gg cap' w7 hown7 hgrow hat hlt7)
   have hF7:=FI.add HN'.out HRW.out HB6.out HTK.out hlen hown7 hgrow
   have HF7:=Lib.hid hF7
   clear hF7 hown7 hgrow hat hlt7
   go_wp2_with fail
   go_roundw
   case rel => exact ⟨k + 1,_,by go_num,hlt,HF7.out⟩
   case measure => simp [intOf]; omega
  ·obtain rfl : k = n:=by omega
   have hms:=hF.rw.msv
   rw [List.take_of_length_le (by rw [← HNN.out]; exact Nat.le_refl _)] at hms
   have HMS:=Lib.hid (And.intro hms hF.bl)
   clear hms hF
   go_wp2_with fail
   go_ret2
   exact ⟨_,rfl,HMS.out.1,HMS.out.2⟩
end
section
open Go.RowKit Go.Shelf
open Ep (HT XS)
open Mx (M)
def LRow (W : World) (B : Nat) (v : Value) (ls : List (List HT)) (vs : List Value) : Prop:=W.ownsRow B 267 1 v ls.length vs ∧ vs.length = ls.length ∧ ∀ (i : Nat) (x : List HT),ls[i]? = some x → ∃ u,vs[i]? = some u ∧ Hs W u x
theorem LRow.nil (W : World) (B : Nat) : LRow W B (.slice none 0 0) [] []:=⟨World.ownsRow_nil _ _ _ _,rfl,fun i x h => by simp at h⟩
def SharedPost (w : World) (r : Except Int (List (List HT))) (e : Ending) (w' : World) : Prop :=
 match r with
 | .ok raws => (∃ v vs,e = .returned (.tuple #[v, .int .i64 0]) ∧ LRow w' w.heap.size v raws vs) ∧ Below w.heap.size w w'
 | .error k => e = .returned (.tuple #[.slice none 0 0, .int .i64 k]) ∧ k ≠ 0 ∧ Below w.heap.size w w'
theorem eshared_plain (kb : Nat) (m : M) (pv bv pp iv cv : Value) (ins : List HT) (cs : List Nat) (w : World) (hk : w.heap[kb]? = some (.cells #[.string m.name, .bool m.fn,pv, .bool m.va,bv,pp] 307 (0,0))) (hf : m.fn = false) :
  Calls Tryz.prog 249 #[.pointer (some ⟨kb,0,none⟩),iv,cv] w (SharedPost w (Ep.shared m ins cs)):=by
 obtain ⟨k0,k1,k2,k3,k4,k5⟩:=box6_cells hk
 have hr : Ep.shared m ins cs = .ok []:=by simp [Ep.shared,hf]
 rw [hr]
 rw [hf] at k1
 clear hr hk
 go_enter Tryz.func249,Tryz.ntmps249
 go_wp2_with fail
 go_ret2
 exact ⟨⟨_,_,rfl,LRow.nil _ _⟩,Below.refl _ _⟩
end
section
open Go.RowKit Go.Shelf
open Ep (HT)
theorem HCs.unsnoc {W : World} : ∀ {l : List HT} {x : HT} {cs : List Value},HCs W (l ++ [x]) cs → ∃ c p,cs = c ++ htCells x p ∧ HCs W l c ∧ HidP W p x.hd
 | [],x,cs,⟨p,r,e,hp,hr⟩ => by
  have hr : r = []:=hr
  subst hr
  exact ⟨[],p,by rw [e,List.append_nil,List.nil_append],rfl,hp⟩
 | y :: l,x,cs,⟨p,r,e,hp,hr⟩ => by
  obtain ⟨c,q,e2,h1,h2⟩:=HCs.unsnoc hr
  exact ⟨htCells y p ++ c,q,by rw [e,e2,List.append_assoc],⟨p,c,rfl,hp,h1⟩,h2⟩
theorem HRow.last {W : World} {n : Nat} {v : Value} {init : List HT} {x : HT} (h : HRow W n v (init ++ [x])) : ∃ g cap p cs cur,v = .slice (some ⟨g,0,none⟩) (init.length + 1) cap ∧ n ≤ g ∧ g < W.heap.size ∧ init.length + 1 ≤ cap ∧ cap ≤ maxLen ∧ HidP W p x.hd ∧
  W.ownsRow n 314 8 v (init.length + 1) (cs ++ htCells x p) ∧ HCs W init cs ∧ W.heap[g]? = some (.cells cur 314 (0,0)) ∧ (∀ j,W.frozen? ⟨g,j,none⟩ = false) ∧ ∀ (j : Nat) (u : Value),(htCells x p)[j]? = some u → W.cell? ⟨g,init.length * 8 + j,none⟩ = some u:=by
 obtain ⟨cs0,hrow,hcs⟩:=h
 obtain ⟨cs,p,rfl,h1,h2⟩:=hcs.unsnoc
 rw [show (init ++ [x]).length = init.length + 1 by simp] at hrow
 have hl:=h1.length
 rcases id hrow.2 with ⟨_,h0⟩ | ⟨g,cap,cur,rfl,hb,hg,c1,c2,c3,c4⟩
 ·omega
 ·refine ⟨g,cap,p,cs,_,rfl,hb,lt_of_heap hg,c1,c2,h2,hrow,h1,hg,hrow.frozenAt,fun j u hj => ?_⟩
  have hj8:=(List.getElem?_eq_some_iff.1 hj).1
  rw [htCells_length] at hj8
  rw [hrow.cellAt (init.length * 8 + j) (by omega),← hl,List.getElem?_append_right (by omega),Nat.add_sub_cancel_left]
  exact hj
structure Fs (W : World) (n fb : Nat) (ov : Value) (f : Ep.Fl) : Prop where
 blk : W.heap[fb]? = some (.cells #[ov, .bool f.gl] 388 (0,0))
 hn : n ≤ fb
 row : HRow W n ov f.out
theorem Fs.below {W W' : World} {n fb : Nat} {ov : Value} {f : Ep.Fl} (h : Fs W n fb ov f) (hb : Below W.heap.size W W') : Fs W' n fb ov f :=
 ⟨(hb.block _ (lt_of_heap h.blk)).trans h.blk,h.hn,h.row.below hb⟩
theorem Fs.push {w W W1 W2 : World} {n fb L : Nat} {ov ov' : Value} {out : List HT} {t : HT} {p : Option Addr} {gl : Bool} {cs : List Value} (hblk : W.heap[fb]? = some (.cells #[ov, .bool gl] 388 (0,0))) (hn : n ≤ fb)
  (hrow : W.ownsRow n 314 8 ov L cs) (hcs : HCs W out cs) (hL : L = out.length) (hp : HidP W p t.hd) (hB : Below n w W) (hnW : n ≤ W.heap.size) (hal : Below W.heap.size W W1)
  (hown : W2.ownsRow n 314 8 ov' (L + 1) (cs ++ htCells t p)) (hgrow : W1.grownBy W2 ov.ownBlock) :
  Fs (W2.setCell ⟨fb,0,none⟩ ov') n fb ov' ⟨out ++ [t],gl⟩ ∧ Below n w (W2.setCell ⟨fb,0,none⟩ ov'):=by
 have off : ∀ {X : World} {v : Value} {m : Nat} {xs : List Value},X.ownsRow n 314 8 v m xs → X.heap[fb]? = some (.cells #[ov, .bool gl] 388 (0,0)) → v.ownBlock ≠ some fb:=fun {X v m xs} h hb e => by
  rcases h.2 with ⟨h',_⟩ | ⟨g,cap,cur,h',_,hg,_⟩
  ·rw [h'] at e; cases e
  ·rw [h'] at e
   injection e with e
   have e : g = fb:=e
   rw [e,hb] at hg
   injection hg with hg; injection hg with _ h _; exact absurd h (by decide)
 have hblk1:=(hal.block _ (lt_of_heap hblk)).trans hblk
 have hblk2:=(hgrow.block fb (lt_of_heap hblk1) (Ne.symm (off hrow hblk))).trans hblk1
 have hrow1:=row_below hrow hal
 have k2 : Kept 379 W W2:=(Kept.of_below hal _).trans (row_kept hrow1 hgrow (by decide))
 have s2:=Kept.set (t:=379) (i:=0) (u:=ov') hblk2 (by decide)
 refine ⟨⟨by simp [World.setCell,Array.getElem?_modify,hblk2],hn,cs ++ htCells t p,?_,((hcs.keep k2).keep s2).snoc ((hp.keep k2).keep s2)⟩,?_⟩
 ·rw [show (out ++ [t]).length = L + 1 by simp [hL]]
  exact ownsRow_setCell_other hown (off hown hblk2) _
 ·exact ((hB.trans (hal.mono hnW)).grown hgrow (Nat.le_trans hnW hal.size) (fun i e => (hrow.lt i e).1)).setCell hn _
end
section
open Go.RowKit Go.Shelf
open Ep (HT)
def AddPost (n fb : Nat) (w : World) (r : Except Int Ep.Fl) (e : Ending) (w' : World) : Prop :=
 match r with
 | .ok f => e = .returned (.int .i64 0) ∧ (∃ ov,Fs w' n fb ov f) ∧ Below n w w'
 | .error k => e = .returned (.int .i64 k) ∧ k ≠ 0 ∧ Below n w w'
noncomputable def addBody : Code:=Tryz.f275.body.getD .skip
def boxHt (t : HT) (p : Option Addr) : Obj:=.cells #[.int .i64 t.t.kind, .string t.t.text, .int .i64 t.t.file, .int .i64 t.t.fr, .int .i64 t.t.en, .bool t.t.bl, .pointer p, .bool t.mark] 314 (0,0)
theorem add_end (w W : World) (n fb B : Nat) (ov : Value) (f : Ep.Fl) (t : HT) (p : Option Addr) (c1 c2 c5 c6 c7 c8 c9 c10 c11 c12 c13 c14 c15 c16 c17 c18 c19 c20 c21 c22 c23 c24 c25 c26 c27 c28 c29 c30 c31 c32 c33 c34 c35 c36 c37 c38 c39 c40 c41 c42 c43 c44 c45 c46 c47 c48 c49 c50 c51 c52 c53 c54 c55 c56 c57 c58 c59 c60 c61 c62 c63 c64 c65 c66 c67 c68 c69 c70 c71 c72 c73 c74 c75 c76 c77 : Value) (h : Fs W n fb ov f) (hbx : W.heap[B]? = some (boxHt t p))
  (hp : HidP W p t.hd) (hB : Below n w W) (hn : n ≤ W.heap.size) (hl : f.out.length < 4000) (hgl : f.out = [] ∨ ∃ i l,f.out = i ++ [l] ∧ f.gl = false ∧ l.mark = false) :
  Code.wp Tryz.prog (secs 1 addBody) (bodyPost Tryz.prog Tryz.f275 (AddPost n fb w (.ok ⟨f.out ++ [t],f.gl⟩))) ⟨#[.pointer (some ⟨fb,0,none⟩),c1,c2, .pointer (some ⟨B,0,none⟩), .int .i64 0,c5,c6,c7,c8,c9,c10,c11,c12,c13,c14,c15,c16,c17,c18,c19,c20,c21,c22,c23,c24,c25,c26,c27,c28,c29,c30,c31,c32,c33,c34,c35,c36,c37,c38,c39,c40,c41,c42,c43,c44,c45,c46,c47,c48,c49,c50,c51,c52,c53,c54,c55,c56,c57,c58,c59,c60,c61,c62,c63,c64,c65,c66,c67,c68,c69,c70,c71,c72,c73,c74,c75,c76,c77],[]⟩ W:=by
 obtain ⟨i0,hi,hz0,hz1,hz2⟩:=info_parts infoHt
 have HI:=Lib.hid hi
 have HZ0:=Lib.hid hz0
 have HZ1:=Lib.hid hz1
 have HZ2:=Lib.hid hz2
 clear hi hz0 hz1 hz2
 have hlt:=lt_of_heap h.blk
 have hBl:=lt_of_heap hbx
 obtain ⟨out,gl⟩:=f
 obtain ⟨cs,hrow,hcs⟩:=h.row
 have hoff : some fb ≠ ov.ownBlock:=fun e => by
  rcases hrow.2 with ⟨h',_⟩ | ⟨g',cap',cur,h',_,h2',_⟩
  ·rw [h'] at e; cases e
  ·rw [h'] at e
   simp only [Value.ownBlock,Option.some.injEq] at e
   rw [← e,h.blk] at h2'
   injection h2' with h2'; injection h2' with _ h2' _; exact absurd h2' (by decide)
 obtain ⟨⟨kd,tx,fl,fr,en,bl⟩,hd,mk⟩:=t
 unfold boxHt at hbx
 dsimp only at hbx hp
 obtain ⟨x0,x1,x2,x3,x4,x5,x6,x7,xf⟩:=box8_cells hbx
 have hf0 : W.frozen? ⟨fb,0,none⟩ = false:=by simp [World.frozen?,h.blk]
 have HF2:=Lib.hid (show ((W.alloc (.cells #[.int .i64 kd, .string tx, .int .i64 fl, .int .i64 fr, .int .i64 en, .bool bl, .pointer p, .bool mk] 314)).drew).frozen? ⟨fb,0,none⟩ = false from (World.frozen?_of_block (w:=W) (a:=⟨fb,0,none⟩) (Below.heap_alloc W _ fb hlt)).trans hf0)
 have hA : Below W.heap.size W ((W.alloc (.cells #[.int .i64 kd, .string tx, .int .i64 fl, .int .i64 fr, .int .i64 en, .bool bl, .pointer p, .bool mk] 314)).drew):=((Below.refl _ _).alloc (Nat.le_refl _) _).drew
 have HLT0:=Lib.hid (show fb < ((W.alloc (.cells #[.int .i64 kd, .string tx, .int .i64 fl, .int .i64 fr, .int .i64 en, .bool bl, .pointer p, .bool mk] 314)).drew).heap.size by simp; omega)
 have hbase0 : n ≤ ((W.alloc (.cells #[.int .i64 kd, .string tx, .int .i64 fl, .int .i64 fr, .int .i64 en, .bool bl, .pointer p, .bool mk] 314)).drew).heap.size:=by simp; omega
 have HH:=Lib.hid h
 have HBX:=Lib.hid hbx
 have HP:=Lib.hid hp
 have HB:=Lib.hid hB
 have HCS:=Lib.hid hcs
 have HOFF:=Lib.hid hoff
 have HA:=Lib.hid hA
 have HN:=Lib.hid hn
 clear hbx hp hB hcs hoff hA hf0
 rcases hgl with he | ⟨i,l,he,hg,hm⟩
 ·dsimp only at he hl
  subst he
  obtain ⟨ad,cap,rfl,b1,b2⟩:=h.row.hs.form
  simp only [List.length_nil] at h b1 hrow
  have hblk:=h.blk
  have HRW:=Lib.hid hrow
  have c0 : W.cell? ⟨fb,0,none⟩ = some (.slice ad 0 cap):=(Lib.cell_of_heap hblk 0).trans rfl
  have HC2:=Lib.hid (show ((W.alloc (.cells #[.int .i64 kd, .string tx, .int .i64 fl, .int .i64 fr, .int .i64 en, .bool bl, .pointer p, .bool mk] 314)).drew).cell? ⟨fb,0,none⟩ = some (.slice ad 0 cap) from Lib.cell?_alloc_some _ c0)
  have KT:=Lib.hid (etooMany_no fb _ _ _ W c0 (by omega))
  clear h hrow hblk
  refine wp_sec 1 addBody rfl ?_
  conv => arg 2; whnf
  go_wp2_with fail
  refine wp_sec 2 addBody rfl ?_
  conv => arg 2; whnf
  go_wp2_with fail
  refine (KT.out).mono ?_
  rintro e4 w4 ⟨rfl,hw4⟩
  rw [hw4]
  clear hw4
  go_wp2_with fail
  go_region_law ((refine step_append_lies _ rfl (.tmp 18) (.tmp 20) 267 rfl n 314 i0 _ 8 72 Tryz.underlying267 HI.out HZ0.out HZ1.out HZ2.out rfl (by omega) (.slice ad 0 cap) 0 cs rfl ?_ ⟨W.heap.size,0,none⟩ 1 1 [.int .i64 kd, .string tx, .int .i64 fl, .int .i64 fr, .int .i64 en, .bool bl, .pointer p, .bool mk] rfl rfl ?_ (by simp [Value.oneCell']) (by omega) (by unfold maxLen; omega) (by omega) ?_ (W.heap.size + 1) ?_ ?_; exact ((HRW.out.alloc _).drew); exact World.news_of_block (cs:=#[.int .i64 kd, .string tx, .int .i64 fl, .int .i64 fr, .int .i64 en, .bool bl, .pointer p, .bool mk]) (t:=314) (fr:=(0,0)) (heap_alloc_new W _); exact hbase0; simp; intro g2 cap' w1 hown hgrow hat hlt1; have hc1w:=(hgrow.cell_far ⟨fb,0,none⟩ HLT0.out HOFF.out).trans HC2.out; have hfzw:=(hgrow.frozen_far ⟨fb,0,none⟩ HLT0.out HOFF.out).trans HF2.out))
  all_goals
   have hF:=Fs.push (t:=⟨⟨kd,tx,fl,fr,en,bl⟩,hd,mk⟩) HH.out.blk HH.out.hn HRW.out HCS.out (by simp) HP.out HB.out HN.out HA.out hown hgrow
   have HF:=Lib.hid hF
   clear hF hown hgrow hat hlt1 hc1w hfzw
   go_wp2_with fail
   refine wp_sec 3 addBody rfl ?_
   conv => arg 2; whnf
   go_wp2_with fail
   conv => arg 2; whnf
   go_wp2_with fail
   exact bodyPost_ret (v:=.int .i64 0) (by simp [results,Tryz.results275,go_sem]) rfl ⟨rfl,⟨_,by have h9:=HF.out.1; first | exact h9 | (rw [List.append_assoc] at h9; exact h9)⟩,HF.out.2⟩
 ·dsimp only at he hl
  subst he
  dsimp only at hg
  subst hg
  obtain ⟨g,cap,pl,cs',cur,rfl,hng,hgl,b1,b2,hpl,hrow2,hcs2,hg,hfz,hcell⟩:=h.row.last
  rw [show (i ++ [l]).length = i.length + 1 by simp] at hrow hl
  have d7:=hcell 7 _ rfl
  rw [hm] at d7
  have q1 : (0 : Int) ≤ (i.length : Int):=by omega
  have q2 : (i.length : Int) < (i.length : Int) + 1:=by omega
  have q3 : IntKind.i64.wrap ((i.length : Int) + 1 - 1) = i.length:=by rw [Int.add_sub_cancel]; exact IntWalk.i64_in _ (by omega)
  have q4 : ((i.length : Int) + 1 - 1) = i.length:=Int.add_sub_cancel _ _
  have g1 : W.cell? ⟨fb,1,none⟩ = some (.bool false):=(Lib.cell_of_heap h.blk 1).trans rfl
  have HRW2:=Lib.hid hrow2
  have HCELL:=Lib.hid hcell
  have HFZ:=Lib.hid hfz
  have HG:=Lib.hid hg
  clear hrow2 hcs2 hg hfz hcell hpl
  have hblk:=h.blk
  have HRW:=Lib.hid hrow
  have c0 : W.cell? ⟨fb,0,none⟩ = some (.slice (some ⟨g,0,none⟩) (i.length + 1) cap):=(Lib.cell_of_heap hblk 0).trans rfl
  have HC2:=Lib.hid (show ((W.alloc (.cells #[.int .i64 kd, .string tx, .int .i64 fl, .int .i64 fr, .int .i64 en, .bool bl, .pointer p, .bool mk] 314)).drew).cell? ⟨fb,0,none⟩ = some (.slice (some ⟨g,0,none⟩) (i.length + 1) cap) from Lib.cell?_alloc_some _ c0)
  have KT:=Lib.hid (etooMany_no fb _ _ _ W c0 (by omega))
  clear h hrow hblk
  refine wp_sec 1 addBody rfl ?_
  conv => arg 2; whnf
  go_wp2_with fail
  refine wp_sec 2 addBody rfl ?_
  conv => arg 2; whnf
  go_wp2_with fail
  refine (KT.out).mono ?_
  rintro e4 w4 ⟨rfl,hw4⟩
  rw [hw4]
  clear hw4
  go_wp2_with fail
  go_region_law ((refine step_append_lies _ rfl (.tmp 18) (.tmp 20) 267 rfl n 314 i0 _ 8 72 Tryz.underlying267 HI.out HZ0.out HZ1.out HZ2.out rfl (by omega) (.slice (some ⟨g,0,none⟩) (i.length + 1) cap) (i.length + 1) cs rfl ?_ ⟨W.heap.size,0,none⟩ 1 1 [.int .i64 kd, .string tx, .int .i64 fl, .int .i64 fr, .int .i64 en, .bool bl, .pointer p, .bool mk] rfl rfl ?_ (by simp [Value.oneCell']) (by omega) (by unfold maxLen; omega) (by omega) ?_ (W.heap.size + 1) ?_ ?_; exact ((HRW.out.alloc _).drew); exact World.news_of_block (cs:=#[.int .i64 kd, .string tx, .int .i64 fl, .int .i64 fr, .int .i64 en, .bool bl, .pointer p, .bool mk]) (t:=314) (fr:=(0,0)) (heap_alloc_new W _); exact hbase0; simp; intro g2 cap' w1 hown hgrow hat hlt1; have hc1w:=(hgrow.cell_far ⟨fb,0,none⟩ HLT0.out HOFF.out).trans HC2.out; have hfzw:=(hgrow.frozen_far ⟨fb,0,none⟩ HLT0.out HOFF.out).trans HF2.out))
  all_goals
   have hF:=Fs.push (t:=⟨⟨kd,tx,fl,fr,en,bl⟩,hd,mk⟩) HH.out.blk HH.out.hn HRW.out HCS.out (by simp) HP.out HB.out HN.out HA.out hown hgrow
   have HF:=Lib.hid hF
   clear hF hown hgrow hat hlt1 hc1w hfzw
   go_wp2_with fail
   refine wp_sec 3 addBody rfl ?_
   conv => arg 2; whnf
   go_wp2_with fail
   conv => arg 2; whnf
   go_wp2_with fail
   exact bodyPost_ret (v:=.int .i64 0) (by simp [results,Tryz.results275,go_sem]) rfl ⟨rfl,⟨_,by have h9:=HF.out.1; first | exact h9 | (rw [List.append_assoc] at h9; exact h9)⟩,HF.out.2⟩
end
section
open Go.RowKit Go.Shelf
open Ep (HT)
theorem Ep.app_some {f : Ep.Fl} {t : HT} {r : Except Int Ep.Fl} (h : Ep.app f t = some r) : f.out.length < 4000 ∧ r = .ok ⟨f.out ++ [t],f.gl⟩:=by
 unfold Ep.app at h
 split at h
 ·rename_i hlt
  injection h with h
  exact ⟨hlt,h.symm⟩
 ·cases h
theorem eadd_any (n fb : Nat) (ov : Value) (f : Ep.Fl) (t : HT) (p : Option Addr) (w : World) (hG : Glob w) (h : Fs w n fb ov f) (hp : HidP w p t.hd) (hn1 : 3 < n) (hnw : n ≤ w.heap.size) (hl : f.out.length ≤ 4000) (hgl : f.gl = false) (hmk : ∀ l,f.out.getLast? = some l → l.mark = false) (r : Except Int Ep.Fl) (hr : Ep.add f t = some r) :
  Calls Tryz.prog 275 #[.pointer (some ⟨fb,0,none⟩),htAgg t p] w (AddPost n fb w r):=by
 have hA : Below w.heap.size w (w.alloc (.cells #[.int .i64 t.t.kind, .string t.t.text, .int .i64 t.t.file, .int .i64 t.t.fr, .int .i64 t.t.en, .bool t.t.bl, .pointer p, .bool t.mark] 314)):=(Below.refl _ _).alloc (Nat.le_refl _) _
 have hbx : (w.alloc (.cells #[.int .i64 t.t.kind, .string t.t.text, .int .i64 t.t.file, .int .i64 t.t.fr, .int .i64 t.t.en, .bool t.t.bl, .pointer p, .bool t.mark] 314)).heap[w.heap.size]? = some (boxHt t p):=heap_alloc_new w _
 have h1:=h.below hA
 have hp1:=hp.keep (Kept.of_below hA _)
 have hB1 : Below n w (w.alloc (.cells #[.int .i64 t.t.kind, .string t.t.text, .int .i64 t.t.file, .int .i64 t.t.fr, .int .i64 t.t.en, .bool t.t.bl, .pointer p, .bool t.mark] 314)):=hA.mono hnw
 have hn2 : n ≤ (w.alloc (.cells #[.int .i64 t.t.kind, .string t.t.text, .int .i64 t.t.file, .int .i64 t.t.fr, .int .i64 t.t.en, .bool t.t.bl, .pointer p, .bool t.mark] 314)).heap.size:=by simp; omega
 unfold htAgg
 go_enter Tryz.func275,Tryz.ntmps275
 show Code.wp Tryz.prog (secs 0 addBody) _ _ _
 refine wp_sec 0 addBody rfl ?_
 conv => arg 2; whnf
 have HBX:=Lib.hid hbx
 have H1:=Lib.hid h1
 have HP1:=Lib.hid hp1
 have HB1:=Lib.hid hB1
 have HN2:=Lib.hid hn2
 have HR:=Lib.hid hr
 clear hA hbx h1 hp1 hB1 hn2 hr h hp
 go_wp2_with fail
 have hr:=HR.out
 generalize (w.alloc (.cells #[.int .i64 t.t.kind, .string t.t.text, .int .i64 t.t.file, .int .i64 t.t.fr, .int .i64 t.t.en, .bool t.t.bl, .pointer p, .bool t.mark] 314)) = W1 at HBX H1 HP1 HB1 HN2 ⊢
 unfold Ep.add at hr
 cases hlast : f.out.getLast? with
 | none =>
  rw [hlast] at hr
  obtain ⟨hlt,rfl⟩:=Ep.app_some hr
  refine add_end w W1 n fb w.heap.size ov f t p _ _ _ _ _ _ _ _ _ _ _ _ _ _ _ _ _ _ _ _ _ _ _ _ _ _ _ _ _ _ _ _ _ _ _ _ _ _ _ _ _ _ _ _ _ _ _ _ _ _ _ _ _ _ _ _ _ _ _ _ _ _ _ _ _ _ _ _ _ _ _ _ _ _ _ H1.out HBX.out HP1.out HB1.out HN2.out hlt (.inl ?_)
  cases ho : f.out with
  | nil => rfl
  | cons a b => rw [ho] at hlast; simp at hlast
 | some l =>
  rw [hlast] at hr
  dsimp only at hr
  obtain ⟨i,hi⟩ : ∃ i,f.out = i ++ [l]:=⟨f.out.dropLast,by
   cases ho : f.out with
   | nil => rw [ho] at hlast; cases hlast
   | cons a b =>
    rw [← ho]
    have hne : f.out ≠ []:=by rw [ho]; simp
    rw [List.getLast?_eq_some_getLast hne] at hlast
    injection hlast with hlast
    rw [← hlast]
    exact (List.dropLast_concat_getLast hne).symm⟩
  obtain ⟨out,gl⟩:=f
  dsimp only at hi hr hl hlast H1
  subst hi
  rw [List.dropLast_concat] at hr
  obtain rfl : gl = false:=hgl
  rw [if_neg (by decide)] at hr
  have hm : l.mark = false:=hmk l hlast
  rw [hm,if_neg (by decide)] at hr
  obtain ⟨hlt,rfl⟩:=Ep.app_some hr
  exact add_end w W1 n fb w.heap.size ov ⟨i ++ [l],false⟩ t p _ _ _ _ _ _ _ _ _ _ _ _ _ _ _ _ _ _ _ _ _ _ _ _ _ _ _ _ _ _ _ _ _ _ _ _ _ _ _ _ _ _ _ _ _ _ _ _ _ _ _ _ _ _ _ _ _ _ _ _ _ _ _ _ _ _ _ _ _ _ _ _ _ _ _ H1.out HBX.out HP1.out HB1.out HN2.out hlt (.inr ⟨i,l,rfl,rfl,hm⟩)
end
section
open Go.RowKit Go.Shelf
open Ep (HT)
def ArgAt (W : World) (g o : Nat) (a : Ep.Arg) : Prop:=∃ vr vf,W.cell? ⟨g,o,none⟩ = some vr ∧ Hs W vr a.raw ∧ W.cell? ⟨g,o + 1,none⟩ = some vf ∧ Hs W vf a.full ∧ KAt W g (o + 2) a.quoted
def Ags (W : World) (v : Value) (ags : List Ep.Arg) : Prop:=∃ ad cap,v = .slice ad ags.length cap ∧ ags.length ≤ cap ∧ cap ≤ maxLen ∧ ∀ (i : Nat) (a : Ep.Arg),ags[i]? = some a → ∃ g o,ad = some ⟨g,o,none⟩ ∧ ArgAt W g (o + i * 8) a
noncomputable def pieceBodyself : Code:=Tryz.f251.body.getD .skip
theorem piece_self (n fb : Nat) (f : Ep.Fl) (p : Ep.Pc) (va : Value) (ags : List Ep.Arg) (w0 w : World) (hn : w0.heap.size = n) (hG : Glob w0) (ha : Ags w0 va ags) (h : ∃ ov,Fs w n fb ov f) (hB : Below n w0 w)
  (_ : ags.length ≤ 1000000) (hf : f.out.length ≤ 4000) (hgl : f.gl = false) (hmk : ∀ l,f.out.getLast? = some l → l.mark = false) (r : Except Int Ep.Fl) (hw : p.way = 0) (hr : Ep.add f (Ep.HT.of p.t) = some r) :
  Calls Tryz.prog 251 #[.pointer (some ⟨fb,0,none⟩),pcV p,va] w (AddPost n fb w r):=by
 have hnw : n ≤ w.heap.size:=by have:=hB.size; omega
 have hn1 : 3 < n:=by have:=hG.pos; omega
 obtain ⟨⟨kd,tx,fl,fr,en,bl⟩,way,par⟩:=p
 unfold pcV
 dsimp only at *
 subst hw
 have hA : Below w.heap.size w (w.alloc (.cells #[.int .i64 kd, .string tx, .int .i64 fl, .int .i64 fr, .int .i64 en, .bool bl, .int .i64 ((0 : Nat) : Int), .int .i64 (par : Int)] 390)):=(Below.refl _ _).alloc (Nat.le_refl _) _
 have hbx:=heap_alloc_new w (.cells #[.int .i64 kd, .string tx, .int .i64 fl, .int .i64 fr, .int .i64 en, .bool bl, .int .i64 ((0 : Nat) : Int), .int .i64 (par : Int)] 390)
 have hB1 : Below n w (w.alloc (.cells #[.int .i64 kd, .string tx, .int .i64 fl, .int .i64 fr, .int .i64 en, .bool bl, .int .i64 ((0 : Nat) : Int), .int .i64 (par : Int)] 390)):=hA.mono hnw
 have h1:=h.imp fun ov h => h.below hA
 have hn2 : n ≤ (w.alloc (.cells #[.int .i64 kd, .string tx, .int .i64 fl, .int .i64 fr, .int .i64 en, .bool bl, .int .i64 ((0 : Nat) : Int), .int .i64 (par : Int)] 390)).heap.size:=Nat.le_trans hnw hA.size
 have HBX:=Lib.hid hbx
 have HB1:=Lib.hid hB1
 have H1:=Lib.hid h1
 have HA0:=Lib.hid ha
 have HG:=Lib.hid hG
 have HB:=Lib.hid hB
 have HF:=Lib.hid hf
 have HN:=Lib.hid hn
 have HN1:=Lib.hid hn1
 have HN2:=Lib.hid hn2
 have HR:=Lib.hid hr
 clear hA hbx hB1 h1 ha hG hB hf hn hn1 hn2 h hnw hr
 go_enter Tryz.func251,Tryz.ntmps251
 show Code.wp Tryz.prog (secs 0 pieceBodyself) _ _ _
 refine wp_sec 0 pieceBodyself rfl ?_
 conv => arg 2; whnf
 go_wp2_with fail
 generalize (w.alloc (.cells #[.int .i64 kd, .string tx, .int .i64 fl, .int .i64 fr, .int .i64 en, .bool bl, .int .i64 ((0 : Nat) : Int), .int .i64 (par : Int)] 390)) = W1 at HBX HB1 H1 HN2 ⊢
 obtain ⟨b0,b1,b2,b3,b4,b5,b6,b7, -⟩:=box8_cells HBX.out
 obtain ⟨ov,h1⟩:=H1.out
 have g0 : W1.cell? ⟨fb,0,none⟩ = some ov:=(Lib.cell_of_heap h1.blk 0).trans rfl
 have g1 : W1.cell? ⟨fb,1,none⟩ = some (.bool f.gl):=(Lib.cell_of_heap h1.blk 1).trans rfl
 have gf : W1.frozen? ⟨fb,1,none⟩ = false:=by simp [World.frozen?,h1.blk]
 have HH:=Lib.hid h1
 clear h1
 refine wp_sec 1 pieceBodyself rfl ?_
 conv => arg 2; whnf
 go_wp2_with fail
 conv => arg 2; whnf
 go_wp2_with fail
 cases r with
 | error e =>
  refine (eadd_any n fb ov f (Ep.HT.of ⟨kd,tx,fl,fr,en,bl⟩) none W1 (HG.out.below (HB.out.trans HB1.out) HN1.out) HH.out (HidP.zero _) HN1.out HN2.out HF.out hgl hmk _ HR.out).mono ?_
  rintro e4 w4 ⟨rfl,he0,hb4⟩
  have HB5:=Lib.hid (HB1.out.trans hb4)
  clear hb4
  go_wp2_with fail
  exact bodyPost_ret (v:=.int .i64 e) (by simp [results,Tryz.results251,go_sem]) rfl ⟨rfl,he0,HB5.out⟩
 | ok f2 =>
  refine (eadd_any n fb ov f (Ep.HT.of ⟨kd,tx,fl,fr,en,bl⟩) none W1 (HG.out.below (HB.out.trans HB1.out) HN1.out) HH.out (HidP.zero _) HN1.out HN2.out HF.out hgl hmk _ HR.out).mono ?_
  rintro e4 w4 ⟨rfl,hfs4,hb4⟩
  have HB5:=Lib.hid (HB1.out.trans hb4)
  have HF5:=Lib.hid hfs4
  clear hb4 hfs4
  go_wp2_with fail
  exact bodyPost_ret (v:=.int .i64 0) (by simp [results,Tryz.results251,go_sem]) rfl ⟨rfl,HF5.out,HB5.out⟩
end
section
open Go.RowKit Go.Shelf
open Ep (HT XS)
open Mx (M)
structure Ep.Le (X X' : XS) : Prop where
 st : X.steps ≤ X'.steps
 pl : ∀ j q,Ep.planIx j X.pl 0 = some q → Ep.planIx j X'.pl 0 = some q
theorem Ep.Le.refl (X : XS) : Ep.Le X X:=⟨Nat.le_refl _,fun _ _ h => h⟩
theorem Ep.Le.trans {X Y Z : XS} (h : Ep.Le X Y) (k : Ep.Le Y Z) : Ep.Le X Z:=⟨Nat.le_trans h.st k.st,fun j q e => k.pl j q (h.pl j q e)⟩
def RunPost (w0 w : World) (xb mb : Nat) (kb : Nat → Nat) (ms : List M) (X : XS) (r : Except Int (XS × List HT)) (e : Ending) (w' : World) : Prop :=
 Fr true w0.heap.size w.heap.size w w' ∧
 match r with
 | .ok (X',l) => (∃ v,e = .returned (.tuple #[v, .int .i64 0]) ∧ Hs w' v l) ∧ l.length ≤ 4000 ∧ XM w0 w' xb mb kb ms X' ∧ Ep.Le X X'
 | .error k => e = .returned (.tuple #[.slice none 0 0, .int .i64 k]) ∧ k ≠ 0
def RunAny (w0 : World) (xb mb : Nat) (kb : Nat → Nat) (ms : List M) (run : XS → List HT → Ep.R (XS × List HT)) : Prop :=
 ∀ (X : XS) (l : List HT) (v : Value) (W : World) (r : Except Int (XS × List HT)),XM w0 W xb mb kb ms X → Hs W v l → l.length ≤ 1000000 → run X l = some r → Calls Tryz.prog 150 #[.pointer (some ⟨xb,0,none⟩),v] W (RunPost w0 W xb mb kb ms X r)
def ArgsPost (w0 w : World) (xb mb : Nat) (kb : Nat → Nat) (ms : List M) (X : XS) (r : Except Int (XS × List Ep.Arg)) (e : Ending) (w' : World) : Prop :=
 Fr true w0.heap.size w.heap.size w w' ∧
 match r with
 | .ok (X',ags) => (∃ v,e = .returned (.tuple #[v, .int .i64 0]) ∧ Ags w' v ags) ∧ ags.length ≤ 1000000 ∧ (∀ a ∈ ags,a.raw.length ≤ 1000000 ∧ a.full.length ≤ 1000000) ∧ XM w0 w' xb mb kb ms X' ∧ Ep.Le X X'
 | .error k => e = .returned (.tuple #[.slice none 0 0, .int .i64 k]) ∧ k ≠ 0
def KeepA (W W' : World) : Prop:=∀ (b : Nat) (cs : Array Value) (t : TypeId) (fz : Nat × Nat),W.heap[b]? = some (.cells cs t fz) → t ≠ 303 → t ≠ 307 → W'.heap[b]? = some (.cells cs t fz)
theorem KeepA.of_fr {N : Nat} {W W' : World} (h : Fr true N W.heap.size W W') : KeepA W W':=fun b _ _ _ hb h1 h2 => h.block b _ hb (.inr ⟨fun _ => ⟨h1,h2⟩, .inr (lt_of_heap hb)⟩)
theorem KeepA.kept {W W' : World} (h : KeepA W W') {t : TypeId} (h1 : t ≠ 303) (h2 : t ≠ 307) : Kept t W W':=fun b cs fz hb => h b cs t fz hb h1 h2
theorem infoArg : (Tryz.prog.info? 384).map (fun i => (i.zero,i.size,i.bytes)) = some (some (.agg #[.slice none 0 0, .slice none 0 0, .int .i64 0, .string ByteArray.empty, .int .i64 0, .int .i64 0, .int .i64 0, .bool false]),8,104):=by kernel_rfl
end
section
open Go.RowKit Go.Shelf
open Ep (HT XS)
open Mx (M)
theorem XM.use {w0 W : World} {xb mb : Nat} {kb : Nat → Nat} {ms : List M} {X : XS} {j q : Nat} {m : M} (h : XM w0 W xb mb kb ms X) (hj : ms[j]? = some m) (hj' : Ep.ixOf m.name ms 0 = some j) (hq : Ep.planIx j X.pl 0 = some q) :
  ∃ pb sv ug ucap pv bv,W.heap[kb j]? = some (.cells #[.string m.name, .bool m.fn,pv, .bool m.va,bv, .pointer (some ⟨pb,0,none⟩)] 307 (0,0)) ∧ MacV w0 (.agg #[.string m.name, .bool m.fn,pv, .bool m.va,bv]) m ∧
   PlW W w0.heap.size pb q sv (.slice (some ⟨ug,0,none⟩) (m.ps.length + 1) ucap) (Ep.pieces m) (Ep.pieces m) (m.ps.length + 1) ∧
   W.cell? ⟨kb j,5,none⟩ = some (.pointer (some ⟨pb,0,none⟩)) ∧ W.cell? ⟨pb,0,none⟩ = some (.int .i64 (q : Int)) ∧ W.cell? ⟨pb,2,none⟩ = some (.slice (some ⟨ug,0,none⟩) (m.ps.length + 1) ucap) ∧
   ∀ i,i ≤ m.ps.length → W.cell? ⟨ug,i * 2,none⟩ = some (.bool (Ep.uses 4 (Ep.pieces m) i)) ∧ W.cell? ⟨ug,i * 2 + 1,none⟩ = some (.bool (Ep.uses 2 (Ep.pieces m) i)):=by
 obtain ⟨pv,bv,pp,hb,hm, -,hp⟩:=h.kn j m hj hj'
 rcases hp with ⟨e,_⟩ | ⟨i,pb,sv,uv,e,rfl,hpl⟩
 ·rw [hq] at e; cases e
 ·rw [hq] at e
  injection e with e
  subst e
  obtain ⟨-, -, -, -, -,k5⟩:=box6_cells hb
  obtain ⟨p0,p1,p2, -⟩:=box3_cells hpl.blk
  have hc:=fun g => World.ownsRow.cells (g:=g) hpl.urow
  rcases id hpl.urow.2 with ⟨_,h0⟩ | ⟨ug,ucap,cur,rfl, -⟩
  ·omega
  ·refine ⟨pb,sv,ug,ucap,pv,bv,hb,hm,hpl,k5,p0,p2,fun i hi => ?_⟩
   have c0:=hc ug rfl (i * 2) _ (usCells_get (m.ps.length + 1) (Ep.pieces m) (i * 2) (by omega))
   have c1:=hc ug rfl (i * 2 + 1) _ (usCells_get (m.ps.length + 1) (Ep.pieces m) (i * 2 + 1) (by omega))
   rw [add_none,Nat.zero_add] at c0 c1
   rw [if_pos (by omega),show i * 2 / 2 = i by omega] at c0
   rw [if_neg (by omega),show (i * 2 + 1) / 2 = i by omega] at c1
   exact ⟨c0,c1⟩
section
variable {w0 w wr W W' : World} {xb mb : Nat} {kb : Nat → Nat} {ms : List M} {X' X2 : XS} {ag k : Nat} {v0 v1 : Value} {q : K} {fl : List HT}
end
end
end Go.Proofs.YthekfpgegiffoaaGreatDoor
