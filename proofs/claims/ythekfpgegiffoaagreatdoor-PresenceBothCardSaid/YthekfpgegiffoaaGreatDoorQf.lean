/- Plain facts: what is read is a beginning; rows of links. (and what stands with it) -/
import Derived.Test.YthekfpgegiffoaaGreatDoorQd
import Derived.Test.YthekfpgegiffoaaGreatDoorQe
import Derived.Deep.AppendLies
import Derived.Test.YthekfpgegiffoaaGreatDoorQb
import Derived.OneCell
import Derived.StringKeys
import Derived.Maps.AppendAt
set_option linter.unusedSimpArgs false
set_option linter.unusedVariables false
set_option maxHeartbeats 16000000
set_option maxRecDepth 100000
namespace Go.Proofs.YthekfpgegiffoaaGreatDoor
section
open Go.RowKit Go.Shelf
open Ie (E Rd)
def Ie.Dec (p : Rd) : Prop:=∀ l x r,p l = some (x,r) → ∃ k,0 < k ∧ k ≤ l.length ∧ r = l.drop k
theorem Ie.Dec.nil {p : Rd} (h : Ie.Dec p) : p [] = none:=by
 cases hp : p [] with
 | none => rfl
 | some q =>
  obtain ⟨k,h1,h2,_⟩:=h [] q.1 q.2 hp
  simp at h2
  omega
theorem Ie.more_dec {next : Rd} (h : Ie.Dec next) (lv : Nat) : ∀ (f : Nat) (x : E) (l : List K) (y : E) (r : List K),Ie.more next lv f x l = some (y,r) → ∃ k,k ≤ l.length ∧ r = l.drop k
 | 0,x,l,y,r,e => by
  simp only [Ie.more,Option.some.injEq,Prod.mk.injEq] at e
  exact ⟨0,Nat.zero_le _,e.2.symm⟩
 | f + 1,x,[],y,r,e => by
  simp only [Ie.more,Option.some.injEq,Prod.mk.injEq] at e
  exact ⟨0,Nat.zero_le _,e.2.symm⟩
 | f + 1,x,t :: l,y,r,e => by
  unfold Ie.more at e
  split at e
  ·cases hn : next l with
   | none => rw [hn] at e; cases e
   | some q =>
    obtain ⟨z,l'⟩:=q
    rw [hn] at e
    obtain ⟨k,_,h2,rfl⟩:=h l z l' hn
    obtain ⟨m,h3,rfl⟩:=Ie.more_dec h lv f _ _ y r e
    rw [List.length_drop] at h3
    exact ⟨k + m + 1,by simp; omega,by rw [List.drop_drop,List.drop_succ_cons]⟩
  ·simp only [Option.some.injEq,Prod.mk.injEq] at e
   exact ⟨0,Nat.zero_le _,e.2.symm⟩
theorem Ie.level_dec {next : Rd} (h : Ie.Dec next) (lv : Nat) : Ie.Dec (Ie.level next lv):=fun l y r e => by
 unfold Ie.level at e
 cases hn : next l with
 | none => rw [hn] at e; cases e
 | some q =>
  obtain ⟨x,l'⟩:=q
  rw [hn] at e
  obtain ⟨k,h1,h2,rfl⟩:=h l x l' hn
  obtain ⟨m,h3,rfl⟩:=Ie.more_dec h lv _ _ _ y r e
  rw [List.length_drop] at h3
  exact ⟨k + m,by omega,by omega,by rw [List.drop_drop]⟩
theorem Ie.levels_dec {op : Rd} (h : Ie.Dec op) : ∀ k,Ie.Dec (Ie.levels op k)
 | 0 => h
 | k + 1 => Ie.level_dec (Ie.levels_dec h k) _
theorem Ie.shut_some {s : ByteArray} {o : Option (E × List K)} {x : E} {r : List K} (h : Ie.shut s o = some (x,r)) : ∃ t,o = some (x,t :: r) ∧ Ie.isS t s = true:=by
 unfold Ie.shut at h
 split at h
 ·rename_i y t l
  split at h
  ·rename_i hs
   simp only [Option.some.injEq,Prod.mk.injEq] at h
   obtain ⟨rfl,rfl⟩:=h
   exact ⟨t,rfl,hs⟩
  ·cases h
 ·cases h
theorem Ie.operS_dec {o e : Rd} (ho : Ie.Dec o) (he : Ie.Dec e) : Ie.Dec (Ie.operS o e):=fun l y r h => by
 cases l with
 | nil => cases h
 | cons t l =>
  have one : ∀ z : E,some (z,l) = some (y,r) → ∃ k,0 < k ∧ k ≤ (t :: l).length ∧ r = (t :: l).drop k:=fun z e => by
   simp only [Option.some.injEq,Prod.mk.injEq] at e
   exact ⟨1,by omega,by simp,e.2.symm⟩
  unfold Ie.operS at h
  dsimp only at h
  split at h
  ·exact one _ h
  split at h
  ·exact one _ h
  split at h
  ·exact one _ h
  split at h
  ·split at h
   ·split at h
    ·cases h
    ·rename_i x l' hx
     simp only [Option.some.injEq,Prod.mk.injEq] at h
     obtain ⟨k,h1,h2,rfl⟩:=ho l x l' hx
     exact ⟨k + 1,by omega,by simp; omega,by rw [List.drop_succ_cons]; exact h.2.symm⟩
   ·split at h
    ·obtain ⟨u,hu,_⟩:=Ie.shut_some h
     obtain ⟨k,h1,h2,h3⟩:=he l y (u :: r) hu
     have hlen:=congrArg List.length h3
     rw [List.length_drop,List.length_cons] at hlen
     refine ⟨k + 2,by omega,by simp; omega,?_⟩
     rw [List.drop_succ_cons,show k + 1 = k + 1 from rfl,← List.drop_drop,← h3]
     rfl
    ·cases h
  ·cases h
theorem Ie.exprS_dec {o e : Rd} (ho : Ie.Dec o) (he : Ie.Dec e) : Ie.Dec (Ie.exprS o e):=fun l y r h => by
 unfold Ie.exprS at h
 cases hx : Ie.levels o 10 l with
 | none => rw [hx] at h; cases h
 | some q =>
  obtain ⟨x,l'⟩:=q
  rw [hx] at h
  obtain ⟨k,h1,h2,h3⟩:=Ie.levels_dec ho 10 l x l' hx
  dsimp only at h
  split at h
  ·simp only [Option.some.injEq,Prod.mk.injEq] at h
   exact ⟨k,h1,h2,by rw [← h3]; exact h.2.symm⟩
  ·rename_i u l2
   have hlen:=congrArg List.length h3
   rw [List.length_drop,List.length_cons] at hlen
   split at h
   ·split at h
    ·cases h
    ·rename_i z r2 hz
     split at h
     ·cases h
     ·rename_i z' r3 hz'
      simp only [Option.some.injEq,Prod.mk.injEq] at h
      obtain ⟨v,hv,_⟩:=Ie.shut_some hz
      obtain ⟨m,m1,m2,m3⟩:=he _ _ _ hv
      obtain ⟨n,n1,n2,n3⟩:=he _ _ _ hz'
      have hlen2:=congrArg List.length m3
      rw [List.length_drop,List.length_cons] at hlen2
      refine ⟨k + 1 + m + 1 + n,by omega,by omega,?_⟩
      have e1 : l2 = l.drop (k + 1):=by rw [← List.drop_drop,← h3]; rfl
      have e2 : r2 = l2.drop (m + 1):=by rw [← List.drop_drop,← m3]; rfl
      rw [← h.2,n3,e2,e1,List.drop_drop,List.drop_drop]
      exact congrArg (List.drop · l) (by omega)
   ·simp only [Option.some.injEq,Prod.mk.injEq] at h
    exact ⟨k,h1,h2,by rw [← h3]; exact h.2.symm⟩
theorem Ie.both_dec : ∀ d,Ie.Dec (Ie.oper d) ∧ Ie.Dec (Ie.expr d)
 | 0 => ⟨fun l x r h => (by cases (show (none : Option (E × List K)) = some (x,r) from h)),fun l x r h => (by cases (show (none : Option (E × List K)) = some (x,r) from h))⟩
 | d + 1 => ⟨Ie.operS_dec (Ie.both_dec d).1 (Ie.both_dec d).2,Ie.exprS_dec (Ie.operS_dec (Ie.both_dec d).1 (Ie.both_dec d).2) (Ie.both_dec d).2⟩
def lkCells : List (ByteArray × E × Value) → List Value
 | [] => []
 | (s,_,u) :: r => .string s :: u :: lkCells r
theorem lkCells_append (a b : List (ByteArray × E × Value)) : lkCells (a ++ b) = lkCells a ++ lkCells b:=by
 induction a with
 | nil => rfl
 | cons x r ih => obtain ⟨s,y,u⟩:=x; simp [lkCells,ih]
theorem lkCells_get (a : List (ByteArray × E × Value)) : ∀ (i : Nat) s y u,a[i]? = some (s,y,u) → (lkCells a)[i * 2]? = some (.string s) ∧ (lkCells a)[i * 2 + 1]? = some u:=by
 induction a with
 | nil => intro i s y u h; simp at h
 | cons x r ih =>
  intro i s y u h
  obtain ⟨s',y',u'⟩:=x
  cases i with
  | zero => simp at h; obtain ⟨rfl,rfl,rfl⟩:=h; exact ⟨rfl,rfl⟩
  | succ i =>
   simp at h
   have:=ih i s y u h
   rw [show (i + 1) * 2 = i * 2 + 2 by omega]
   exact this
theorem infoLink : (Tryz.prog.info? 396).map (fun i => (i.zero,i.size,i.bytes)) = some (some (.agg #[.string ByteArray.empty, .nilIface]),2,32):=by kernel_rfl
structure LR (W : World) (N R : Nat) (mv : Value) (x : E) (vx : Value) (ys : List (ByteArray × E × Value)) : Prop where
 row : W.ownsRow N 396 2 mv ys.length (lkCells ys)
 first : Ex W (fun g => N ≤ g ∧ g < W.heap.size ∧ mv.ownBlock ≠ some g) x vx
 lv : ∀ (i : Nat) s y u,ys[i]? = some (s,y,u) → Ie.lvS s ≠ 0
 each : ∀ (i : Nat) s y u,ys[i]? = some (s,y,u) → Ex W (fun g => N ≤ g ∧ g < W.heap.size ∧ mv.ownBlock ≠ some g) y u
theorem row_heap9 {W W' : World} {base e sz n : Nat} {v : Value} {cs : List Value} (h : W.ownsRow base e sz v n cs) (hb : ∀ k,v.ownBlock = some k → W'.heap[k]? = W.heap[k]?) : W'.ownsRow base e sz v n cs:=by
 refine ⟨h.1,?_⟩
 rcases h.2 with h' | ⟨g,cap,cur,h',h1,h2,h3⟩
 ·exact .inl h'
 ·exact .inr ⟨g,cap,cur,h',h1,(hb g (by rw [h']; rfl)).trans h2,h3⟩
theorem LR.start {W : World} {N R : Nat} {x : E} {vx : Value} (h : Ex W (fun g => N ≤ g ∧ g < W.heap.size) x vx) : LR W N R (.slice none 0 0) x vx [] :=
 ⟨⟨by simp [lkCells], .inl ⟨rfl,rfl⟩⟩,h.keep fun b hb => ⟨⟨hb.1,hb.2,by simp [Value.ownBlock]⟩,rfl⟩,fun i s y u h => by simp at h,fun i s y u h => by simp at h⟩
theorem LR.keep {W W' : World} {N R : Nat} {mv : Value} {x : E} {vx : Value} {ys : List (ByteArray × E × Value)} (h : LR W N R mv x vx ys) (hR : R < N) (hF : Fb R W W') : LR W' N R mv x vx ys:=by
 have key : ∀ b,(N ≤ b ∧ b < W.heap.size ∧ mv.ownBlock ≠ some b) → (N ≤ b ∧ b < W'.heap.size ∧ mv.ownBlock ≠ some b) ∧ W'.heap[b]? = W.heap[b]?:=fun b hb => ⟨⟨hb.1,Nat.lt_of_lt_of_le hb.2.1 hF.size,hb.2.2⟩,hF.block b hb.2.1 (by omega)⟩
 exact ⟨row_heap9 h.row fun k hk => hF.block k (h.row.lt k hk).2 (by have:=(h.row.lt k hk).1; omega),h.first.keep key,h.lv,fun i s y u hi => (h.each i s y u hi).keep key⟩
theorem LR.add {W w2 W' : World} {N R : Nat} {mv : Value} {x : E} {vx : Value} {ys : List (ByteArray × E × Value)} {s : ByteArray} {y : E} {u : Value} {g cap : Nat}
  (h : LR W N R mv x vx ys) (hs : Ie.lvS s ≠ 0) (hu : Ex W (fun g => N ≤ g ∧ g < W.heap.size ∧ mv.ownBlock ≠ some g) y u) (hB : Below W.heap.size W w2)
  (hrow : W'.ownsRow N 396 2 (.slice (some ⟨g,0,none⟩) (ys.length + 1) cap) (ys.length + 1) (lkCells ys ++ [.string s,u])) (hg : w2.grownBy W' mv.ownBlock) (hgo : mv.ownBlock = some g ∨ W.heap.size ≤ g) :
  LR W' N R (.slice (some ⟨g,0,none⟩) (ys.length + 1) cap) x vx (ys ++ [(s,y,u)]):=by
 have key : ∀ b,(N ≤ b ∧ b < W.heap.size ∧ mv.ownBlock ≠ some b) → (N ≤ b ∧ b < W'.heap.size ∧ (Value.slice (some ⟨g,0,none⟩) (ys.length + 1) cap).ownBlock ≠ some b) ∧ W'.heap[b]? = W.heap[b]?:=fun b hb => by
  have h1:=hB.size
  have h2:=hg.size
  refine ⟨⟨hb.1,by omega,?_⟩,(hg.block b (by omega) (Ne.symm hb.2.2)).trans (hB.block b hb.2.1)⟩
  intro e
  simp only [Value.ownBlock,Option.some.injEq] at e
  subst e
  rcases hgo with h3 | h3
  ·exact hb.2.2 h3
  ·omega
 have last : ∀ (i : Nat) s' y' u',(ys ++ [(s,y,u)])[i]? = some (s',y',u') → ys[i]? = some (s',y',u') ∨ (s' = s ∧ y' = y ∧ u' = u):=fun i s' y' u' hi => by
  rw [List.getElem?_append] at hi
  split at hi
  ·exact .inl hi
  ·right
   cases hj : i - ys.length with
   | zero => rw [hj] at hi; simp at hi; exact ⟨hi.1.symm,hi.2.1.symm,hi.2.2.symm⟩
   | succ j => rw [hj] at hi; simp at hi
 refine ⟨?_,h.first.keep key,fun i s' y' u' hi => ?_,fun i s' y' u' hi => ?_⟩
 ·rw [lkCells_append,List.length_append]; exact hrow
 ·rcases last i s' y' u' hi with h1 | ⟨rfl,rfl,rfl⟩
  ·exact h.lv i s' y' u' h1
  ·exact hs
 ·rcases last i s' y' u' hi with h1 | ⟨rfl,rfl,rfl⟩
  ·exact (h.each i s' y' u' h1).keep key
  ·exact hu.keep key
theorem LR.chain {W : World} {N R : Nat} {mv : Value} {x : E} {vx : Value} {ys : List (ByteArray × E × Value)} (h : LR W N R mv x vx ys) (hn : ys ≠ []) :
  Ex W (fun g => N ≤ g ∧ g < W.heap.size) (Ie.fold x ys) (.iface 398 (.agg #[vx,mv])):=by
 have hpos : 0 < ys.length:=List.length_pos_iff.2 hn
 have hc:=fun g => h.row.cells (g:=g)
 rcases h.row.2 with ⟨_,h0⟩ | ⟨g,cap,cur,rfl,_,_,h1,h2,_,_⟩
 ·omega
 ·have key : ∀ b,(N ≤ b ∧ b < W.heap.size ∧ (Value.slice (some ⟨g,0,none⟩) ys.length cap).ownBlock ≠ some b) → (N ≤ b ∧ b < W.heap.size) ∧ W.heap[b]? = W.heap[b]?:=fun b hb => ⟨⟨hb.1,hb.2.1⟩,rfl⟩
  refine .chain x vx ys g cap (h.first.keep key) (h.row.lt g rfl) h1 h2 (fun i s y u hi => ?_) fun i s y u hi => (h.each i s y u hi).keep key
  have k:=lkCells_get ys i s y u hi
  refine ⟨h.lv i s y u hi,?_,?_⟩
  ·have:=hc g rfl (i * 2) _ k.1
   rw [add_none] at this
   simpa using this
  ·have:=hc g rfl (i * 2 + 1) _ k.2
   rw [add_none] at this
   simpa using this
end
section
open Go.RowKit Go.Shelf
open Ie (E Rd)
def IsIf (v : Value) : Prop:=∃ t p,v = .iface t p
def Tb (l : List K) : Prop:=l.length ≤ 1000000 ∧ ∀ t ∈ l,t.text.size ≤ 1000000
theorem Tb.drop {l : List K} (h : Tb l) (k : Nat) : Tb (l.drop k):=⟨by rw [List.length_drop]; have:=h.1; omega,fun t ht => h.2 t (List.mem_of_mem_drop ht)⟩
theorem Tb.tail {t : K} {r : List K} (h : Tb (t :: r)) : Tb r:=h.drop 1
def RdPost (R B : Nat) (spec : Option (E × List K)) (b : Bool) (e : Int) (w : World) (en : Ending) (w' : World) : Prop :=
 ∃ v l' b' e',en = .returned v ∧ Fb R w w' ∧ RS w' R B l' b' e' ∧ IsIf v ∧
  ((∃ T,spec = some (T,l') ∧ b' = b ∧ e' = (if T.isBad then 91 else e) ∧ Ex w' (fun g => w.heap.size ≤ g ∧ g < w'.heap.size) T v) ∨ (spec = none ∧ l' = [] ∧ b' = true))
def Reads (f : FuncId) (args : List Value) (p : Rd) : Prop :=
 ∀ (R B : Nat) (l : List K) (b : Bool) (e : Int) (w : World),Gv w → 5 < R → B ≤ w.heap.size → RS w R B l b e → (b = true → l = []) → Tb l → Calls Tryz.prog f ⟨.pointer (some ⟨R,0,none⟩) :: args⟩ w (RdPost R B (p l) b e w)
theorem Gv.fb {R : Nat} {w w' : World} (h : Gv w) (hR : 5 < R) (hF : Fb R w w') (hw : 5 < w.heap.size) : Gv w':=by
 have hB : Below 6 w w':=hF.below (by omega) (by omega)
 exact ⟨h.1.below hB (by omega),h.2.below hB (by omega)⟩
theorem Gv.pos {w : World} (h : Gv w) : 5 < w.heap.size:=h.2.pos
theorem joined_base (d depth : Nat) (HO : Reads 253 [.int .i64 depth] (Ie.oper d)) : Reads 223 [.int .i64 11, .int .i64 depth] (Ie.oper d):=by
 intro R B l b e w hG hR hBw hRS hb hT
 have K1:=Lib.hid (HO R B l b e w hG hR hBw hRS hb hT)
 clear hG hRS hb hT HO
 go_enter Tryz.func223,Tryz.ntmps223
 go_wp2_with fail
 refine K1.out.mono ?_
 rintro en w2 ⟨v,l',b',e',rfl,h⟩
 have H:=Lib.hid h
 clear h
 go_wp2_with fail
 go_ret
 exact ⟨v,l',b',e',rfl,H.out⟩
def leftLen (R : Nat) (w : World) : Nat:=match w.cell? ⟨R,0,none⟩ with | some (.slice _ n _) => n | _ => 0
theorem leftLen_of {w : World} {R B : Nat} {l : List K} {b : Bool} {e : Int} (h : RS w R B l b e) : leftLen R w = l.length:=by
 obtain ⟨lv,h1,ad,cap,rfl, -⟩:=h
 unfold leftLen
 rw [(box3v h1).1]
theorem Ie.bad_one (x : Bool) (e : Int) (y : Bool) : (if y = true then (91 : Int) else if x = true then 91 else e) = if (x || y) = true then 91 else e:=by cases x <;> cases y <;> rfl
theorem ownsRow_none {w : World} {base e sz : Nat} {v : Value} {cs : List Value} (h : w.ownsRow base e sz v 0 cs) : ∃ ad cap,v = .slice ad 0 cap:=by
 rcases h.2 with ⟨h',_⟩ | ⟨g,cap,cur,h',_⟩
 ·exact ⟨_,_,h'⟩
 ·exact ⟨_,_,h'⟩
theorem ownsRow_some {w : World} {base e sz n m : Nat} {v : Value} {cs : List Value} (h : w.ownsRow base e sz v n cs) (hm : n = m) (hn : n ≠ 0) : ∃ g cap,v = .slice (some ⟨g,0,none⟩) m cap:=by
 rcases h.2 with ⟨_,h0⟩ | ⟨g,cap,cur,h',_⟩
 ·exact absurd h0 hn
 ·exact ⟨g,cap,by rw [h',hm]⟩
theorem Ie.more_yes {next : Rd} {lv f : Nat} {x y : E} {t : K} {r l' : List K} (h : Ie.lvOf t = lv) (hn : next r = some (y,l')) : Ie.more next lv (f + 1) x (t :: r) = Ie.more next lv f (.bin t.text x y) l':=by
 show (if Ie.lvOf t = lv then _ else _) = _
 rw [if_pos h,hn]
theorem Ie.more_none {next : Rd} {lv f : Nat} {x : E} {t : K} {r : List K} (h : Ie.lvOf t = lv) (hn : next r = none) : Ie.more next lv (f + 1) x (t :: r) = none:=by
 show (if Ie.lvOf t = lv then _ else _) = _
 rw [if_pos h,hn]
def JInv (N R B L lv : Nat) (next : Rd) (spec : Option (E × List K)) (b : Bool) (e : Int) (x : E) (v : Value) (w wr : World) (mv : Value) : Prop :=
 ∃ l1 b1 e1,RS wr R B l1 b1 e1 ∧ Fb R w wr ∧ ((∃ ys f,LR wr N R mv x v ys ∧ ys.length + l1.length ≤ L ∧ b1 = b ∧ e1 = (if (Ie.fold x ys).isBad then 91 else e) ∧ Tb l1 ∧ (b = true → l1 = []) ∧ l1.length ≤ f ∧ spec = Ie.more next lv f (Ie.fold x ys) l1)
  ∨ (l1 = [] ∧ b1 = true ∧ spec = none ∧ ∃ n cs,wr.ownsRow N 396 2 mv n cs ∧ n ≠ 0))
theorem joined_step (lv depth : Nat) (next : Rd) (hlv : lv ≤ 10) (hl0 : 1 ≤ lv) (hdep : depth ≤ 1000) (HD : Ie.Dec next) (HN : Reads 223 [.int .i64 ((lv : Int) + 1), .int .i64 depth] next) :
  Reads 223 [.int .i64 lv, .int .i64 depth] (Ie.level next lv):=by
 intro R B l b e w hG hR hBw hRS hb hT
 have K1:=Lib.hid (HN R B l b e w hG hR hBw hRS hb hT)
 have HG:=Lib.hid hG
 have HT:=Lib.hid hT
 have HHD:=Lib.hid HD
 have HHN:=Lib.hid HN
 have HHB:=Lib.hid hb
 obtain ⟨lv0,hRw, -⟩:=hRS
 have hRw:=rdr_lt hRw
 have l1 : (lv : Int) ≤ 10:=by omega
 have l2 : (1 : Int) ≤ lv:=by omega
 obtain ⟨i0,hi,hz0,hz1,hz2⟩:=info_parts infoLink
 obtain ⟨S,hS⟩ : ∃ S,S = Ie.level next lv l:=⟨_,rfl⟩
 rw [← hS]
 have HS0:=Lib.hid hS
 clear hG hT HD HN hb hS
 go_enter Tryz.func223,Tryz.ntmps223
 go_wp2_with fail
 refine K1.out.mono ?_
 rintro en w2 ⟨v,l2,b2,e2,rfl,hF2,hRS2,hIf,hsp⟩
 obtain ⟨vt,vp,rfl⟩:=hIf
 rcases hsp with ⟨x,hx,rfl,rfl,hEx⟩ | ⟨hx,rfl,rfl⟩
 ·have hspec : Ie.level next lv l = Ie.more next lv l2.length x l2:=by unfold Ie.level; rw [hx]
  obtain ⟨k,hk0,hk1,hk2⟩:=HHD.out l x l2 hx
  have hlen : l2.length ≤ l.length:=by rw [hk2,List.length_drop]; omega
  have hT2 : Tb l2:=by rw [hk2]; exact HT.out.drop k
  have hb2 : b2 = true → l2 = []:=fun hbt => by
   have:=HHB.out hbt
   rw [hk2,this]
   simp
  have hinv : JInv w.heap.size R B l.length lv next (Ie.level next lv l) b2 e x (.iface vt vp) w w2 (.slice none 0 0) :=
   ⟨l2,b2,_,hRS2,hF2, .inl ⟨[],l2.length,LR.start hEx,by simpa using hlen,rfl,rfl,hT2,hb2,Nat.le_refl _,hspec⟩⟩
  obtain ⟨L,hL⟩ : ∃ L,L = l.length:=⟨_,rfl⟩
  have hL1 : L ≤ 1000000:=by rw [hL]; exact HT.out.1
  rw [← HS0.out,← hL] at hinv
  have HI:=Lib.hid hinv
  clear hx hspec hk0 hk1 hk2 hlen hT2 hb2 hL hinv hF2 hRS2 hEx
  go_wp2_with fail
  go_loopw [8] (fun u wr => ∃ mv,mv = u ∧ JInv w.heap.size R B L lv next S b2 e x (.iface vt vp) w wr mv) (fun _ wr => leftLen R wr)
  case atStart => exact ⟨_,rfl,HI.out⟩
  case round =>
   obtain ⟨mv,hmv,l3,b3,e3,hRS,hF,hm⟩:=hrel
   subst hmv
   have hlenL:=leftLen_of hRS
   have HL:=Lib.hid hlenL
   clear hlenL
   cases l3 with
   | nil =>
    obtain ⟨lv3,hbx,ad,cap,rfl, -⟩:=id hRS
    obtain ⟨c0, -, -⟩:=box3v hbx
    simp only [List.length_nil] at c0
    have HRS:=Lib.hid hRS
    have HF:=Lib.hid hF
    clear hRS hbx hF
    rcases hm with ⟨ys,f,hLR,hc,rfl,rfl, -, -, -,hspec⟩ | ⟨-,rfl,rfl,n,cs,hrow,hn⟩
    ·have hS2 : S = some (Ie.fold x ys,[]):=by rw [hspec]; cases f <;> rfl
     have HS:=Lib.hid hS2
     clear hspec hS2
     rcases Nat.eq_zero_or_pos ys.length with h0 | hpos
     ·obtain rfl : ys = []:=List.length_eq_zero_iff.1 h0
      obtain ⟨mg,mc,rfl⟩:=ownsRow_none hLR.row
      have HLR:=Lib.hid hLR
      clear hLR hc
      go_wp2_with fail
      go_ret
      exact ⟨_,[],_,_,rfl,HF.out,HRS.out,⟨_,_,rfl⟩, .inl ⟨_,HS.out,rfl,rfl,HLR.out.first.keep fun g hg => ⟨⟨hg.1,hg.2.1⟩,rfl⟩⟩⟩
     ·have hne : ys ≠ []:=List.length_pos_iff.1 hpos
      have HCH:=Lib.hid (hLR.chain hne)
      obtain ⟨n,hn⟩ : ∃ n,n = ys.length:=⟨_,rfl⟩
      obtain ⟨mg,mc,rfl⟩:=ownsRow_some hLR.row hn.symm (by omega)
      have zn : ¬ (n : Int) = 0:=by omega
      clear hLR hc hne hn hpos
      go_wp2_with fail
      go_ret
      exact ⟨_,[],_,_,rfl,HF.out,HRS.out,⟨_,_,rfl⟩, .inl ⟨_,HS.out,rfl,rfl,HCH.out⟩⟩
    ·obtain ⟨mg,mc,rfl⟩:=ownsRow_some hrow rfl hn
     clear hrow
     have zn : ¬ (n : Int) = 0:=by omega
     go_wp2_with fail
     go_ret
     exact ⟨_,[],_,_,rfl,HF.out,HRS.out,⟨_,_,rfl⟩, .inr ⟨rfl,rfl,rfl⟩⟩
   | cons t r =>
    rcases hm with ⟨ys,f,hLR,hc,rfl,rfl,hT3,hb3,hf,hspec⟩ | ⟨h, -⟩
    ·obtain ⟨f,rfl⟩ : ∃ f',f = f' + 1:=⟨f - 1,by simp at hf; omega⟩
     obtain ⟨lv3,hbx,hLv⟩:=id hRS
     obtain ⟨g,o,cap,rfl,hc1,hc2, -,⟨d0,d1,d2,d3,d4,d5⟩,htl⟩:=hLv.cons
     unfold maxLen at hc2
     obtain ⟨n,hn⟩ : ∃ n,n = r.length:=⟨_,rfl⟩
     rw [← hn] at hbx hc1 htl
     obtain ⟨c0, -, -⟩:=box3v hbx
     have K2:=Lib.hid (level_any t wr)
     have HRS:=Lib.hid hRS
     have HF:=Lib.hid hF
     have HLR:=Lib.hid hLR
     have HT3:=Lib.hid hT3
     have HB3:=Lib.hid hb3
     have HSP:=Lib.hid hspec
     have Hn:=Lib.hid hn
     have HTL:=Lib.hid htl
     have HC:=Lib.hid hc
     have HFf:=Lib.hid hf
     have HBX:=Lib.hid hbx
     obtain ⟨q,hq⟩ : ∃ q,q = Ie.lvOf t:=⟨_,rfl⟩
     rw [← hq] at K2
     have HQ:=Lib.hid hq
     obtain ⟨kd,tx,tf,fr,en,bl⟩:=t
     dsimp only [kAgg] at d0 d1 d2 d3 d4 d5 K2
     clear hRS hLv hF hLR hT3 hb3 hspec hn htl hc hf hbx hq
     have z0 : (0 : Int) ≤ n:=by omega
     have z1 : (0 : Int) < (n : Int) + 1:=by omega
     go_wp2_with fail
     refine K2.out.mono ?_
     rintro en4 w4 ⟨rfl,hB4⟩
     have hbx4:=below_heap hB4 HBX.out
     obtain ⟨c0', -, -⟩:=box3v hbx4
     have f0 : w4.frozen? ⟨R,0,none⟩ = false:=Lib.frozen_of_heap hbx4 0
     replace d1:=below_cof hB4 d1
     have HB4:=Lib.hid hB4
     have HBX4:=Lib.hid hbx4
     clear hB4 hbx4 c0 d0 d2 d3 d4 d5 K2
     by_cases hql : q = lv
     ·have hql' : (q : Int) = lv:=by omega
      rcases Decidable.em (cap = 1) with rfl | hcap
      ·obtain rfl : n = 0:=by omega
       have HRS5:=Lib.hid (show RS (w4.setCell ⟨R,0,none⟩ (.slice (some ⟨g,o,none⟩) 0 0)) R B r b3 (if (Ie.fold x ys).isBad then 91 else e) from ⟨_,rdr_set0 HBX4.out _,((HTL.out 0 (by omega)).keep (.of HB4.out)).set 0 _⟩)
       have hF5 : Fb R wr (w4.setCell ⟨R,0,none⟩ (.slice (some ⟨g,o,none⟩) 0 0)):=(Fb.of HB4.out).set 0 _
       go_wp2_with fail
       obtain ⟨W5,hW5⟩ : ∃ W5,W5 = w4.setCell ⟨R,0,none⟩ (.slice (some ⟨g,o,none⟩) 0 0):=⟨_,rfl⟩
       rw [← hW5] at hF5 HRS5
       rw [← hW5]
       clear hW5
       have hwr:=HF.out.size
       have h5s:=hF5.size
       have hLR5:=HLR.out.keep (by omega) hF5
       have hFw5:=HF.out.trans hF5
       refine (HHN.out R B r b3 _ W5 (HG.out.fb hR hFw5 HG.out.pos) hR (by omega) HRS5.out (fun hbt => by have:=HB3.out hbt; cases this) HT3.out.tail).mono ?_
       rintro en6 w6 ⟨u,l6,b6,e6,rfl,hF6,hRS6,hIf6,hsp6⟩
       obtain ⟨ut,up,rfl⟩:=hIf6
       have h6s:=hF6.size
       have hlt5 : ∀ k,mv.ownBlock = some k → k < W5.heap.size:=fun k hk => (hLR5.row.lt k hk).2
       have hmeas : l6.length ≤ r.length:=by
        rcases hsp6 with ⟨T,hT6, -⟩ | ⟨-,rfl, -⟩
        ·obtain ⟨k,hk0,hk1,hk2⟩:=HHD.out r T l6 hT6
         rw [hk2,List.length_drop]; omega
        ·simp
       have hLR6:=hLR5.keep (by omega) hF6
       have HLT5:=Lib.hid hlt5
       have HMEAS:=Lib.hid hmeas
       clear hlt5 hmeas
       have hFw6:=hFw5.trans hF6
       have HLR6:=Lib.hid hLR6
       have HFW:=Lib.hid hFw6
       have HRS6:=Lib.hid hRS6
       have HSP6:=Lib.hid hsp6
       have hown:=hLR6.row
       have hcn:=HC.out
       simp only [List.length_cons] at hcn
       clear hF5 hLR5 hFw5 hF6 hRS6 hsp6 hLR6 hFw6 HRS5
       obtain ⟨m,hm⟩ : ∃ m,m = ys.length:=⟨_,rfl⟩
       obtain ⟨cs,hcs⟩ : ∃ cs,cs = lkCells ys:=⟨_,rfl⟩
       rw [← hm] at hcn
       rw [← hm,← hcs] at hown
       have HM:=Lib.hid hm
       have HCS:=Lib.hid hcs
       clear hm hcs
       have HHown:=Lib.hid hown
       clear hown
       go_wp2_with (at_builtin; refine wpList_append_lies _ rfl _ _ 393 rfl w.heap.size 396 i0 _ 2 32 Tryz.underlying393 hi hz0 hz1 hz2 rfl (by decide) mv m cs rfl (HHown.out.alloc _) ⟨w6.heap.size,0,none⟩ 1 1 [.string tx, .iface ut up] rfl rfl (World.news_of_block (cs:=#[.string tx, .iface ut up]) (t:=396) (fr:=(0,0)) (heap_alloc_new w6 _)) (by simp [Value.oneCell']) (by decide) (by unfold maxLen; omega) (by omega) (by simp; omega) _ rfl ?_; intro gg cap' w7 hown7 hgrow hat hlt7)
       have hA : Below w6.heap.size w6 (w6.alloc (.cells #[.string tx, .iface ut up] 396)):=Below.alloc (Below.refl _ _) (Nat.le_refl _) _
       have hblk : ∀ k,mv.ownBlock = some k → w.heap.size ≤ k ∧ k < w6.heap.size:=fun k hk => by
        have:=HHown.out.lt k hk
        exact ⟨this.1,this.2⟩
       have hRS7:=HRS6.out.grown hA hgrow fun k hk => by
        have:=hblk k hk
        exact ⟨by omega,by omega⟩
       have hFw7 : Fb R w w7:=⟨hgrow.os.trans (hA.os.trans HFW.out.os),hgrow.tape.trans (hA.tape.trans HFW.out.tape),hgrow.output.trans (hA.output.trans HFW.out.output),by have:=hgrow.size; have:=hA.size; omega,fun k hk hn => by
        rw [hgrow.block k (by have:=hA.size; omega) (fun e => by have:=hblk k e.symm; omega),hA.block k (by omega)]
        exact HFW.out.block k hk hn⟩
       go_roundw
       case rel =>
        refine ⟨_,rfl,l6,b6,e6,hRS7,hFw7,?_⟩
        rcases HSP6.out with ⟨T,hT6,rfl,rfl,hEx6⟩ | ⟨hN6,rfl,rfl⟩
        ·obtain ⟨k,hk0,hk1,hk2⟩:=HHD.out r T l6 hT6
         have hlen6 : l6.length + k = r.length:=by rw [hk2,List.length_drop]; omega
         refine .inl ⟨ys ++ [(tx,T, .iface ut up)],f,?_,?_,rfl,?_,?_,?_,?_,?_⟩
         ·have hx:=HLR6.out.add (s:=tx) (y:=T) (u:=.iface ut up) (w2:=w6.alloc (.cells #[.string tx, .iface ut up] 396)) (W':=w7) (g:=gg) (cap:=cap')
           (by
            have h1 : Ie.lvOf ⟨kd,tx,tf,fr,en,bl⟩ = lv:=by rw [← HQ.out]; exact hql
            unfold Ie.lvOf at h1
            split at h1
            ·rw [show Ie.lvS tx = lv from h1]; omega
            ·omega)
           (hEx6.keep fun x hx => ⟨⟨by omega,hx.2,fun e => by have:=HLT5.out x e; have:=hx.1; omega⟩,rfl⟩) hA
           (by rw [← HM.out,← HCS.out]; exact hown7) hgrow (by
            rcases hat with h | h
            ·exact .inl h
            ·right; rw [h]; exact hA.size)
          rw [← HM.out] at hx
          exact hx
         ·rw [List.length_append,← HM.out]
          simp only [List.length_cons,List.length_nil]
          omega
         ·rw [Ie.fold_snoc]
          show _ = if ((Ie.fold x ys).isBad || T.isBad) = true then _ else _
          rw [← Ie.bad_one]
         ·rw [hk2]; exact HT3.out.tail.drop k
         ·intro hbt; have:=HB3.out hbt; cases this
         ·have:=HFf.out; simp only [List.length_cons] at this; omega
         ·rw [HSP.out,Ie.fold_snoc]
          exact Ie.more_yes (by rw [← HQ.out]; exact hql) hT6
        ·refine .inr ⟨rfl,rfl,?_,m + 1,_,hown7,by omega⟩
         rw [HSP.out]
         exact Ie.more_none (by rw [← HQ.out]; exact hql) hN6
       case measure =>
        rw [leftLen_of hRS7,HL.out]
        have:=HMEAS.out
        simp only [List.length_cons]
        omega
      ·have HRS5:=Lib.hid (show RS (w4.setCell ⟨R,0,none⟩ (.slice (some ⟨g,o + 6,none⟩) n (cap - 1))) R B r b3 (if (Ie.fold x ys).isBad then 91 else e) from ⟨_,rdr_set0 HBX4.out _,((HTL.out 6 (fun _ => rfl)).keep (.of HB4.out)).set 0 _⟩)
       have hF5 : Fb R wr (w4.setCell ⟨R,0,none⟩ (.slice (some ⟨g,o + 6,none⟩) n (cap - 1))):=(Fb.of HB4.out).set 0 _
       go_wp2_with fail
       obtain ⟨W5,hW5⟩ : ∃ W5,W5 = w4.setCell ⟨R,0,none⟩ (.slice (some ⟨g,o + 6,none⟩) n (cap - 1)):=⟨_,rfl⟩
       rw [← hW5] at hF5 HRS5
       rw [← hW5]
       clear hW5
       have hwr:=HF.out.size
       have h5s:=hF5.size
       have hLR5:=HLR.out.keep (by omega) hF5
       have hFw5:=HF.out.trans hF5
       refine (HHN.out R B r b3 _ W5 (HG.out.fb hR hFw5 HG.out.pos) hR (by omega) HRS5.out (fun hbt => by have:=HB3.out hbt; cases this) HT3.out.tail).mono ?_
       rintro en6 w6 ⟨u,l6,b6,e6,rfl,hF6,hRS6,hIf6,hsp6⟩
       obtain ⟨ut,up,rfl⟩:=hIf6
       have h6s:=hF6.size
       have hlt5 : ∀ k,mv.ownBlock = some k → k < W5.heap.size:=fun k hk => (hLR5.row.lt k hk).2
       have hmeas : l6.length ≤ r.length:=by
        rcases hsp6 with ⟨T,hT6, -⟩ | ⟨-,rfl, -⟩
        ·obtain ⟨k,hk0,hk1,hk2⟩:=HHD.out r T l6 hT6
         rw [hk2,List.length_drop]; omega
        ·simp
       have hLR6:=hLR5.keep (by omega) hF6
       have HLT5:=Lib.hid hlt5
       have HMEAS:=Lib.hid hmeas
       clear hlt5 hmeas
       have hFw6:=hFw5.trans hF6
       have HLR6:=Lib.hid hLR6
       have HFW:=Lib.hid hFw6
       have HRS6:=Lib.hid hRS6
       have HSP6:=Lib.hid hsp6
       have hown:=hLR6.row
       have hcn:=HC.out
       simp only [List.length_cons] at hcn
       clear hF5 hLR5 hFw5 hF6 hRS6 hsp6 hLR6 hFw6 HRS5
       obtain ⟨m,hm⟩ : ∃ m,m = ys.length:=⟨_,rfl⟩
       obtain ⟨cs,hcs⟩ : ∃ cs,cs = lkCells ys:=⟨_,rfl⟩
       rw [← hm] at hcn
       rw [← hm,← hcs] at hown
       have HM:=Lib.hid hm
       have HCS:=Lib.hid hcs
       clear hm hcs
       have HHown:=Lib.hid hown
       clear hown
       go_wp2_with (at_builtin; refine wpList_append_lies _ rfl _ _ 393 rfl w.heap.size 396 i0 _ 2 32 Tryz.underlying393 hi hz0 hz1 hz2 rfl (by decide) mv m cs rfl (HHown.out.alloc _) ⟨w6.heap.size,0,none⟩ 1 1 [.string tx, .iface ut up] rfl rfl (World.news_of_block (cs:=#[.string tx, .iface ut up]) (t:=396) (fr:=(0,0)) (heap_alloc_new w6 _)) (by simp [Value.oneCell']) (by decide) (by unfold maxLen; omega) (by omega) (by simp; omega) _ rfl ?_; intro gg cap' w7 hown7 hgrow hat hlt7)
       have hA : Below w6.heap.size w6 (w6.alloc (.cells #[.string tx, .iface ut up] 396)):=Below.alloc (Below.refl _ _) (Nat.le_refl _) _
       have hblk : ∀ k,mv.ownBlock = some k → w.heap.size ≤ k ∧ k < w6.heap.size:=fun k hk => by
        have:=HHown.out.lt k hk
        exact ⟨this.1,this.2⟩
       have hRS7:=HRS6.out.grown hA hgrow fun k hk => by
        have:=hblk k hk
        exact ⟨by omega,by omega⟩
       have hFw7 : Fb R w w7:=⟨hgrow.os.trans (hA.os.trans HFW.out.os),hgrow.tape.trans (hA.tape.trans HFW.out.tape),hgrow.output.trans (hA.output.trans HFW.out.output),by have:=hgrow.size; have:=hA.size; omega,fun k hk hn => by
        rw [hgrow.block k (by have:=hA.size; omega) (fun e => by have:=hblk k e.symm; omega),hA.block k (by omega)]
        exact HFW.out.block k hk hn⟩
       go_roundw
       case rel =>
        refine ⟨_,rfl,l6,b6,e6,hRS7,hFw7,?_⟩
        rcases HSP6.out with ⟨T,hT6,rfl,rfl,hEx6⟩ | ⟨hN6,rfl,rfl⟩
        ·obtain ⟨k,hk0,hk1,hk2⟩:=HHD.out r T l6 hT6
         have hlen6 : l6.length + k = r.length:=by rw [hk2,List.length_drop]; omega
         refine .inl ⟨ys ++ [(tx,T, .iface ut up)],f,?_,?_,rfl,?_,?_,?_,?_,?_⟩
         ·have hx:=HLR6.out.add (s:=tx) (y:=T) (u:=.iface ut up) (w2:=w6.alloc (.cells #[.string tx, .iface ut up] 396)) (W':=w7) (g:=gg) (cap:=cap')
           (by
            have h1 : Ie.lvOf ⟨kd,tx,tf,fr,en,bl⟩ = lv:=by rw [← HQ.out]; exact hql
            unfold Ie.lvOf at h1
            split at h1
            ·rw [show Ie.lvS tx = lv from h1]; omega
            ·omega)
           (hEx6.keep fun x hx => ⟨⟨by omega,hx.2,fun e => by have:=HLT5.out x e; have:=hx.1; omega⟩,rfl⟩) hA
           (by rw [← HM.out,← HCS.out]; exact hown7) hgrow (by
            rcases hat with h | h
            ·exact .inl h
            ·right; rw [h]; exact hA.size)
          rw [← HM.out] at hx
          exact hx
         ·rw [List.length_append,← HM.out]
          simp only [List.length_cons,List.length_nil]
          omega
         ·rw [Ie.fold_snoc]
          show _ = if ((Ie.fold x ys).isBad || T.isBad) = true then _ else _
          rw [← Ie.bad_one]
         ·rw [hk2]; exact HT3.out.tail.drop k
         ·intro hbt; have:=HB3.out hbt; cases this
         ·have:=HFf.out; simp only [List.length_cons] at this; omega
         ·rw [HSP.out,Ie.fold_snoc]
          exact Ie.more_yes (by rw [← HQ.out]; exact hql) hT6
        ·refine .inr ⟨rfl,rfl,?_,m + 1,_,hown7,by omega⟩
         rw [HSP.out]
         exact Ie.more_none (by rw [← HQ.out]; exact hql) hN6
       case measure =>
        rw [leftLen_of hRS7,HL.out]
        have:=HMEAS.out
        simp only [List.length_cons]
        omega
     ·have hql' : ¬ (q : Int) = lv:=by omega
      have hS2 : S = some (Ie.fold x ys,(⟨kd,tx,tf,fr,en,bl⟩ : K) :: r):=by
       rw [HSP.out]
       exact if_neg (by rw [← HQ.out]; exact hql)
      have HS:=Lib.hid hS2
      have hLR4:=HLR.out.keep (by have:=HF.out.size; omega) (.of HB4.out)
      have hF4:=HF.out.then HB4.out
      have hRS4:=HRS.out.keep HB4.out
      have HF4:=Lib.hid hF4
      have HRS4:=Lib.hid hRS4
      clear hS2 hF4 hRS4
      rcases Nat.eq_zero_or_pos ys.length with h0 | hpos
      ·obtain rfl : ys = []:=List.length_eq_zero_iff.1 h0
       obtain ⟨mg,mc,rfl⟩:=ownsRow_none hLR4.row
       have HLR4:=Lib.hid hLR4
       clear hLR4
       go_wp2_with fail
       go_ret
       exact ⟨_,_,_,_,rfl,HF4.out,HRS4.out,⟨_,_,rfl⟩, .inl ⟨_,HS.out,rfl,rfl,HLR4.out.first.keep fun g hg => ⟨⟨hg.1,hg.2.1⟩,rfl⟩⟩⟩
      ·have hne : ys ≠ []:=List.length_pos_iff.1 hpos
       have HCH:=Lib.hid (hLR4.chain hne)
       obtain ⟨m,hm⟩ : ∃ m,m = ys.length:=⟨_,rfl⟩
       obtain ⟨mg,mc,rfl⟩:=ownsRow_some hLR4.row hm.symm (by omega)
       have zm : ¬ (m : Int) = 0:=by omega
       clear hLR4 hne hm hpos
       go_wp2_with fail
       go_ret
       exact ⟨_,_,_,_,rfl,HF4.out,HRS4.out,⟨_,_,rfl⟩, .inl ⟨_,HS.out,rfl,rfl,HCH.out⟩⟩
    ·cases h
 ·have hS2 : S = none:=by rw [HS0.out]; unfold Ie.level; rw [hx]
  have HS:=Lib.hid hS2
  have HI:=Lib.hid (And.intro hRS2 hF2)
  clear hx hS2 hRS2 hF2
  go_wp2_with fail
  go_loopw [8] (fun u wr => u = .slice none 0 0 ∧ RS wr R B [] true e2 ∧ Fb R w wr) (fun _ _ => 0)
  case atStart => exact ⟨rfl,HI.out⟩
  case round =>
   obtain ⟨rfl,hRS,hF⟩:=hrel
   obtain ⟨lv3,hbx,ad,cap,rfl, -⟩:=id hRS
   obtain ⟨c0, -, -⟩:=box3v hbx
   simp only [List.length_nil] at c0
   have HRS:=Lib.hid hRS
   have HF:=Lib.hid hF
   clear hRS hbx hF
   go_wp2_with fail
   go_ret
   exact ⟨_,[],_,_,rfl,HF.out,HRS.out,⟨_,_,rfl⟩, .inr ⟨HS.out,rfl,rfl⟩⟩
end
section
open Go.RowKit Go.Shelf Go.WideMaps
def Ie.has (ns : List ByteArray) (x : ByteArray) : Bool:=ns.any fun y => decide (y = x)
def Nms (W : World) (mb : Nat) (ns : List ByteArray) : Prop :=
 ∃ n D,W.ownsMap (H:=Unit) Tryz.prog 9 unitElem mb n D ∧ n ≤ ns.length ∧ ∀ x : ByteArray,x.size ≤ maxLen → Go.Maps.has D (.string x.data.toList) = Ie.has ns x
theorem nms_made (w : World) : Nms (w.alloc (.map #[] 0)) w.heap.size []:=⟨0,_,World.ownsMap_made w _ _ _,by simp,fun x _ => rfl⟩
theorem Nms.keep {W W' : World} {mb : Nat} {ns : List ByteArray} (h : Nms W mb ns) (hb : Below W.heap.size W W') : Nms W' mb ns:=by
 obtain ⟨n,D,h1,h2⟩:=h
 exact ⟨n,D,h1.kept (row:=none) ⟨hb.os,hb.tape,hb.output,hb.size,fun k hk _ => hb.block k hk⟩ (by simp),h2⟩
theorem Nms.grown {W W' : World} {mb : Nat} {ns : List ByteArray} {row : Option Nat} (h : Nms W mb ns) (hg : W.grownBy W' row) (hr : row ≠ some mb) : Nms W' mb ns:=by
 obtain ⟨n,D,h1,h2⟩:=h
 exact ⟨n,D,h1.kept hg (fun e => hr e.symm),h2⟩
theorem Nms.look {W : World} {mb : Nat} {ns : List ByteArray} (h : Nms W mb ns) (x : ByteArray) (hx : x.size ≤ maxLen) :
  (Instr.lookup 163 (.map (some mb)) (.string x) true).run Tryz.prog W = .ok (.tuple #[.agg #[], .bool (Ie.has ns x)]) W:=by
 obtain ⟨n,D,h1,_,h3⟩:=h
 obtain ⟨v,q,hr,hv⟩:=h1.look_ok keyStr Tryz.underlying163 (zeroUnit W) (unitElem_mk (H:=Unit)) (keyOf_string_mk Tryz.underlying9 hx)
 obtain ⟨rfl,_⟩:=unitElem_inv hv
 rw [hr,h3 x hx]
theorem Nms.put {W : World} {mb : Nat} {ns : List ByteArray} (h : Nms W mb ns) (x : ByteArray) (hx : x.size ≤ maxLen) (hl : ns.length < maxLen) :
  ∃ W',(Instr.mapUpdate 163 (.map (some mb)) (.string x) (.agg #[])).run Tryz.prog W = .ok () W' ∧ Nms W' mb (ns ++ [x]) ∧ W.grownBy W' (some mb):=by
 obtain ⟨n,D,h1,h2,h3⟩:=h
 obtain ⟨W',r1,r2,r3⟩:=h1.update keyStr Tryz.underlying163 (by omega) (keyOf_string_mk Tryz.underlying9 hx) (unitElem_mk (H:=Unit))
 refine ⟨W',r1,⟨n + 1,_,r2,by simp; omega,fun y hy => ?_⟩,r3⟩
 by_cases e : y = x
 ·subst e
  rw [Go.Maps.has_put_same h1.isMap (keyLit y hx)]
  simp [Ie.has]
 ·rw [Go.Maps.has_put_other (fun e' => e (str_inj e')),h3 y hy]
  have : ¬ x = y:=fun e' => e e'.symm
  simp [Ie.has,this]
namespace Ie
def DEF : ByteArray:=⟨#[100,101,102,105,110,101,100]⟩
def B0 : ByteArray:=⟨#[48]⟩
def B1 : ByteArray:=⟨#[49]⟩
def asked : List K → Option (ByteArray × Nat)
 | [] => none
 | a :: r =>
  if a.kind = 1 then some (a.text,1)
  else match r with
   | b :: c :: _ => if isS a sLp = true ∧ b.kind = 1 ∧ isS c sRp = true then some (b.text,3) else none
   | _ => none
def isDef (t : K) : Bool:=decide (t.kind = 1) && decide (t.text = DEF)
def told (ns : List ByteArray) (t : K) (x : ByteArray) : K:=⟨2,if has ns x then B1 else B0,t.file,t.fr,t.en,t.bl⟩
def defd (ns : List ByteArray) : Nat → List K → Option (List K)
 | 0,_ => some []
 | _ + 1,[] => some []
 | f + 1,t :: r =>
  if isDef t then
   match asked r with
   | none => none
   | some (x,n) => (defd ns f (r.drop n)).map (told ns t x :: ·)
  else (defd ns f r).map (t :: ·)
theorem asked_some {l : List K} {x : ByteArray} {n : Nat} (h : asked l = some (x,n)) : (0 < n ∧ n ≤ l.length ∧ n ≤ 3) ∧ ∃ t ∈ l,t.text = x:=by
 match l with
 | [] => cases h
 | a :: r =>
  by_cases hk : a.kind = 1
  ·have e : asked (a :: r) = some (a.text,1):=if_pos hk
   rw [e] at h
   simp only [Option.some.injEq,Prod.mk.injEq] at h
   obtain ⟨h1,rfl⟩:=h
   exact ⟨⟨by omega,by simp,by omega⟩,a,List.mem_cons_self,h1⟩
  ·match r with
   | [] =>
    have e : asked [a] = none:=if_neg hk
    rw [e] at h; cases h
   | [b] =>
    have e : asked [a,b] = none:=if_neg hk
    rw [e] at h; cases h
   | b :: c :: r =>
    have e : asked (a :: b :: c :: r) = if isS a sLp = true ∧ b.kind = 1 ∧ isS c sRp = true then some (b.text,3) else none:=if_neg hk
    rw [e] at h
    by_cases hq : isS a sLp = true ∧ b.kind = 1 ∧ isS c sRp = true
    ·rw [if_pos hq] at h
     simp only [Option.some.injEq,Prod.mk.injEq] at h
     obtain ⟨h1,rfl⟩:=h
     exact ⟨⟨by omega,by simp,by omega⟩,b,by simp,h1⟩
    ·rw [if_neg hq] at h; cases h
theorem asked_len {l : List K} {x : ByteArray} {n : Nat} (h : asked l = some (x,n)) : 0 < n ∧ n ≤ l.length ∧ n ≤ 3:=(asked_some h).1
theorem asked_mem {l : List K} {x : ByteArray} {n : Nat} (h : asked l = some (x,n)) : ∃ t ∈ l,t.text = x:=(asked_some h).2
end Ie
def askV : Option (ByteArray × Nat) → Value
 | none => .tuple #[.string ⟨#[]⟩, .int .i64 0]
 | some (x,n) => .tuple #[.string x, .int .i64 n]
theorem asked_any (v : Value) (l : List K) (w : World) (hv : Ks w v l) : Calls Tryz.prog 148 #[v] w fun e w' => e = .returned (askV (Ie.asked l)) ∧ Below w.heap.size w w':=by
 cases l with
 | nil =>
  obtain ⟨ad,cap,rfl, -⟩:=hv
  show Calls Tryz.prog 148 #[.slice ad 0 cap] w fun e w' => e = .returned (.tuple #[.string ⟨#[]⟩, .int .i64 0]) ∧ Below w.heap.size w w'
  go_enter Tryz.func148,Tryz.ntmps148
  go_wp2_with fail
  go_ret2
  exact ⟨rfl,Below.refl _ _⟩
 | cons a r =>
  obtain ⟨ad,cap,rfl, -⟩:=id hv
  obtain ⟨g,o,rfl, -,hc1,hc2,hg,hc⟩:=hv.cells (by simp)
  unfold maxLen at hc2
  obtain ⟨a0,a1,a2,a3,a4,a5⟩:=hc 0 a rfl
  simp only [Nat.zero_mul,Nat.add_zero] at a0 a1 a2 a3 a4 a5
  by_cases hk : a.kind = 1
  ·have e1 : Ie.asked (a :: r) = some (a.text,1):=if_pos hk
   rw [e1]
   obtain ⟨n,hn⟩ : ∃ n,n = r.length:=⟨_,rfl⟩
   simp only [List.length_cons] at hc1 ⊢
   rw [← hn] at hc1 ⊢
   obtain ⟨kd,tx,f,fr,en,bl⟩:=a
   dsimp only at a0 a1 a2 a3 a4 a5 hk ⊢
   have z1 : (0 : Int) < (n : Int) + 1:=by omega
   clear hv hc hn e1
   go_enter Tryz.func148,Tryz.ntmps148
   go_wp2_with fail
   go_ret2
   exact ⟨rfl,Below.refl _ _⟩
  ·match r,hv,hc,hc1 with
   | [],_,_,hc1 =>
    have e1 : Ie.asked [a] = none:=if_neg hk
    rw [e1]
    obtain ⟨kd,tx,f,fr,en,bl⟩:=a
    dsimp only at a0 a1 a2 a3 a4 a5 hk ⊢
    clear hc hv e1
    go_enter Tryz.func148,Tryz.ntmps148
    go_wp2_with fail
    go_ret2
    exact ⟨rfl,Below.refl _ _⟩
   | [b],_,_,hc1 =>
    have e1 : Ie.asked [a,b] = none:=if_neg hk
    rw [e1]
    obtain ⟨kd,tx,f,fr,en,bl⟩:=a
    dsimp only at a0 a1 a2 a3 a4 a5 hk ⊢
    clear hc hv e1
    go_enter Tryz.func148,Tryz.ntmps148
    go_wp2_with fail
    go_ret2
    exact ⟨rfl,Below.refl _ _⟩
   | b :: c :: r,hv,hc,hc1 =>
    obtain ⟨b0,b1,b2,b3,b4,b5⟩:=hc 1 b rfl
    obtain ⟨c0,c1,c2,c3,c4,c5⟩:=hc 2 c rfl
    have e1 : Ie.asked (a :: b :: c :: r) = if Ie.isS a Ie.sLp = true ∧ b.kind = 1 ∧ Ie.isS c Ie.sRp = true then some (b.text,3) else none:=if_neg hk
    rw [e1]
    have K1:=Lib.hid (fun W => isign_any a Ie.sLp W)
    have K2:=Lib.hid (fun W => isign_any c Ie.sRp W)
    obtain ⟨p,hp⟩ : ∃ p,p = Ie.isS a Ie.sLp:=⟨_,rfl⟩
    obtain ⟨q,hq⟩ : ∃ q,q = Ie.isS c Ie.sRp:=⟨_,rfl⟩
    rw [← hp] at K1 ⊢
    rw [← hq] at K2 ⊢
    obtain ⟨n,hn⟩ : ∃ n,n = r.length:=⟨_,rfl⟩
    simp only [List.length_cons] at hc1 ⊢
    rw [← hn] at hc1 ⊢
    obtain ⟨kd,tx,f,fr,en,bl⟩:=a
    obtain ⟨bkd,btx,bf,bfr,ben,bbl⟩:=b
    obtain ⟨ckd,ctx,cf,cfr,cen,cbl⟩:=c
    dsimp only [kAgg] at a0 a1 a2 a3 a4 a5 b0 b1 c0 c1 c2 c3 c4 c5 hk K1 K2 ⊢
    simp only [Nat.one_mul] at b0 b1 b2 b3 b4 b5
    have z1 : (0 : Int) < (n : Int) + 1 + 1 + 1:=by omega
    have z2 : (2 : Int) < (n : Int) + 1 + 1 + 1:=by omega
    obtain ⟨z,hz⟩ : ∃ z,z = (if p = true ∧ bkd = 1 ∧ q = true then some (btx,3) else none):=⟨_,rfl⟩
    rw [← hz]
    have z0 : p = false → z = none:=fun h => by rw [hz,if_neg (fun h' => by rw [h] at h'; exact absurd h'.1 (by decide))]
    have z3 : q = false → z = none:=fun h => by rw [hz,if_neg (fun h' => by rw [h] at h'; exact absurd h'.2.2 (by decide))]
    have z4 : ¬ bkd = 1 → z = none:=fun h => by rw [hz,if_neg (fun h' => h h'.2.1)]
    have z5 : p = true → bkd = 1 → q = true → z = some (btx,3):=fun h1 h2 h3 => by rw [hz,if_pos ⟨h1,h2,h3⟩]
    clear hv hc hn e1 hp hq b2 b3 b4 b5 hz
    have Z0:=Lib.hid z0
    have Z3:=Lib.hid z3
    have Z4:=Lib.hid z4
    have Z5:=Lib.hid z5
    clear z0 z3 z4 z5
    cases p with
    | false =>
     rw [Z0.out rfl]
     go_enter Tryz.func148,Tryz.ntmps148
     go_wp2_with fail
     refine (K1.out _).mono ?_
     rintro e w2 ⟨rfl,hB2⟩
     go_wp2_with fail
     go_ret2
     exact ⟨rfl,hB2⟩
    | true =>
     by_cases hb : bkd = 1
     ·have HBK:=Lib.hid hb
      go_enter Tryz.func148,Tryz.ntmps148
      go_wp2_with fail
      refine (K1.out _).mono ?_
      rintro e w2 ⟨rfl,hB2⟩
      replace b0:=below_cof hB2 b0
      replace b1:=below_cof hB2 b1
      replace c0:=below_cof hB2 c0
      replace c1:=below_cof hB2 c1
      replace c2:=below_cof hB2 c2
      replace c3:=below_cof hB2 c3
      replace c4:=below_cof hB2 c4
      replace c5:=below_cof hB2 c5
      have HB2:=Lib.hid hB2
      clear hB2 a0 a1 a2 a3 a4 a5
      go_wp2_with fail
      refine (K2.out _).mono ?_
      rintro e w3 ⟨rfl,hB3⟩
      replace b1:=below_cof hB3 b1
      have HB3:=Lib.hid hB3
      clear hB3 c0 c1 c2 c3 c4 c5 b0
      cases q with
      | false =>
       go_wp2_with fail
       go_ret2
       refine ⟨?_,Below.then HB2.out HB3.out⟩
       rw [Z3.out (by simp)]
       rfl
      | true =>
       go_wp2_with fail
       go_ret2
       refine ⟨?_,Below.then HB2.out HB3.out⟩
       rw [Z5.out (by simp) (by first | exact HBK.out | simp) (by simp)]
       rfl
     ·rw [Z4.out hb]
      go_enter Tryz.func148,Tryz.ntmps148
      go_wp2_with fail
      refine (K1.out _).mono ?_
      rintro e w2 ⟨rfl,hB2⟩
      replace b0:=below_cof hB2 b0
      go_wp2_with fail
      go_ret2
      exact ⟨rfl,hB2⟩
end
section
namespace Mx
def VA : ByteArray:=⟨#[95,95,86,65,95,65,82,71,83,95,95]⟩
def DF : ByteArray:=⟨#[100,101,102,105,110,101,100]⟩
def LP : ByteArray:=⟨#[40]⟩
def RP : ByteArray:=⟨#[41]⟩
def CM : ByteArray:=⟨#[44]⟩
def EL : ByteArray:=⟨#[46,46,46]⟩
def HS : ByteArray:=⟨#[35]⟩
def HH : ByteArray:=⟨#[35,35]⟩
def isP (t : K) (s : ByteArray) : Bool:=t.kind == 5 && decide (t.text = s)
def has (ps : List ByteArray) (s : ByteArray) : Bool:=ps.any fun p => decide (p = s)
theorem has_iff (ps : List ByteArray) (s : ByteArray) : has ps s = true ↔ s ∈ ps:=by simp [has]
structure M where
 name : ByteArray
 fn : Bool
 ps : List ByteArray
 va : Bool
 body : List K
def M.zero : M:=⟨ByteArray.empty,false,[],false,[]⟩
def parOk (ps : List ByteArray) (t : K) : Bool:=t.kind == 1 && (!decide (t.text = VA) && !has ps t.text)
def plist : List ByteArray → List K → Option (List ByteArray × Bool × List K)
 | ps,a :: b :: r =>
  if isP a EL then (if isP b RP then some (ps,true,r) else none)
  else if parOk ps a then
   (if isP b RP then some (ps ++ [a.text],false,r) else if isP b CM then plist (ps ++ [a.text]) r else none)
  else none
 | _,_ => none
def known (ps : List ByteArray) (va : Bool) (t : K) : Bool:=t.kind == 1 && (has ps t.text || (va && decide (t.text = VA)))
def hashBad (ps : List ByteArray) (va : Bool) : List K → Bool
 | [] => false
 | [t] => isP t HS
 | t :: u :: r => (isP t HS && !known ps va u) || hashBad ps va (u :: r)
def vaIn (l : List K) : Bool:=l.any fun t => t.kind == 1 && decide (t.text = VA)
def bare : List K → List K
 | [] => []
 | t :: r => { t with bl:=false } :: r
def pasteBad (l : List K) : Bool:=(match l.head? with | some t => isP t HH | none => false) || (match l.getLast? with | some t => isP t HH | none => false)
def bodyOf (nm : ByteArray) (fn : Bool) (ps : List ByteArray) (va : Bool) (l : List K) : M × Int :=
 if l = [] then (⟨nm,fn,ps,va,[]⟩,0)
 else if pasteBad l then (.zero,63)
 else if fn && hashBad ps va l then (.zero,64)
 else if !va && vaIn l then (.zero,65)
 else (⟨nm,fn,ps,va,bare l⟩,0)
def brack (r : List K) : Except Int (Bool × List ByteArray × Bool × List K) :=
 match r with
 | [] => .ok (false,[],false,[])
 | u :: r' =>
  if u.bl then .ok (false,[],false,u :: r')
  else if isP u LP then
   (match r' with
    | [] => .error 61
    | c :: r'' =>
     if isP c RP then .ok (true,[],false,r'')
     else match plist [] (c :: r'') with
      | none => .error 61
      | some (ps,va,l) => .ok (true,ps,va,l))
  else .error 62
def nameOk (t : K) : Bool:=t.kind == 1 && (!decide (t.text = DF) && !decide (t.text = VA))
def defi (l : List K) : M × Int :=
 match l with
 | [] => (.zero,60)
 | t :: r =>
  if nameOk t then
   match brack r with
   | .error e => (.zero,e)
   | .ok (fn,ps,va,b) => bodyOf t.text fn ps va b
  else (.zero,60)
end Mx
end
section
namespace Ep
open Mx (M isP has LP RP CM HS HH VA)
structure HT where
 t : K
 hd : Nat
 mark : Bool
def HT.of (t : K) : HT:=⟨t,0,false⟩
def blK (t : K) (b : Bool) : K:=⟨t.kind,t.text,t.file,t.fr,t.en,b⟩
def zeroK : K:=⟨0,⟨#[]⟩,0,0,0,false⟩
def lined : Bool → List K → List HT
 | _,[] => []
 | b,t :: r => if t.kind = 7 then lined true r else HT.of (blK t (t.bl || b)) :: lined false r
def come : List HT → Bool → List HT
 | [],_ => []
 | x :: r,b => ⟨blK x.t b,x.hd,x.mark⟩ :: r
def lastIx (s : ByteArray) : List ByteArray → Nat → Option Nat
 | [],_ => none
 | p :: r,i => match lastIx s r (i + 1) with | some j => some j | none => if p = s then some i else none
def parIx (m : M) (s : ByteArray) : Option Nat :=
 if m.fn then (if m.va && decide (s = VA) then some m.ps.length else lastIx s m.ps 0) else none
def parOf (m : M) (t : K) : Option Nat:=if t.kind == 1 then parIx m t.text else none
structure Pc where
 t : K
 way : Nat
 par : Nat
def isIn (o : Option K) (s : ByteArray) : Bool:=match o with | some t => isP t s | none => false
def parIn (m : M) (o : Option K) : Option Nat:=match o with | some t => parOf m t | none => none
def pieceAt (m : M) (prev : Option K) (t : K) (next : Option K) : Pc :=
 if isP t HH then ⟨t,1,0⟩
 else if isP t HS && (parIn m next).isSome then ⟨t,2,(parIn m next).getD 0⟩
 else match parOf m t with
  | none => ⟨t,0,0⟩
  | some p => if isIn prev HH || isIn next HH then ⟨t,3,p⟩ else ⟨t,4,p⟩
def pieceOf (m : M) (i : Nat) : Pc :=
 match m.body[i]? with
 | none => ⟨zeroK,0,0⟩
 | some t => pieceAt m (if i = 0 then none else m.body[i - 1]?) t m.body[i + 1]?
def pcs (m : M) : Nat → Nat → List Pc
 | 0,_ => []
 | f + 1,i => if i < m.body.length then pieceOf m i :: pcs m f (if (pieceOf m i).way = 2 then i + 2 else i + 1) else []
def pieces (m : M) : List Pc:=pcs m m.body.length 0
def uses (w : Nat) (P : List Pc) (i : Nat) : Bool:=P.any fun p => p.way == w && p.par == i
abbrev R (α : Type):=Option (Except Int α)
structure Arg where
 raw : List HT
 full : List HT
 quoted : K
structure Fl where
 out : List HT
 gl : Bool
def pasted (a b : HT) : Option (HT × Int):=if b.mark then some (a,0) else if a.mark then some (⟨blK b.t a.t.bl,b.hd,b.mark⟩,0) else none
def app (f : Fl) (t : HT) : R Fl:=if f.out.length < 4000 then some (.ok ⟨f.out ++ [t],f.gl⟩) else none
def add (f : Fl) (t : HT) : R Fl :=
 match f.out.getLast? with
 | some l =>
  if f.gl then
   match pasted l t with
   | none => none
   | some (o,e) => if e = 0 then some (.ok ⟨f.out.dropLast ++ [o],false⟩) else some (.error e)
  else if l.mark then some (.ok ⟨f.out.dropLast ++ [t],f.gl⟩)
  else app f t
 | none => app f t
def addAll : List HT → Fl → R Fl
 | [],f => some (.ok f)
 | t :: r,f => match add f t with | some (.ok f') => addAll r f' | o => o
def markOf (b : Bool) : HT:=⟨⟨0,⟨#[]⟩,0,0,0,b⟩,0,true⟩
def piece (f : Fl) (p : Pc) (ags : List Arg) : R Fl :=
 match p.way with
 | 1 => if f.gl then add f (HT.of p.t) else some (.ok ⟨f.out,true⟩)
 | 2 => match ags[p.par]? with
  | none => none
  | some a => add f (HT.of ⟨a.quoted.kind,a.quoted.text,p.t.file,p.t.fr,p.t.en,p.t.bl⟩)
 | 3 => match ags[p.par]? with
  | none => none
  | some a => if a.raw.isEmpty then add f (markOf p.t.bl) else addAll (come a.raw p.t.bl) f
 | 4 => match ags[p.par]? with
  | none => none
  | some a => addAll (come a.full p.t.bl) f
 | _ => add f (HT.of p.t)
def fill (ags : List Arg) : List Pc → Fl → R Fl
 | [],f => some (.ok f)
 | p :: r,f => match piece f p ags with | some (.ok f') => fill ags r f' | o => o
def unmark (l : List HT) : List HT:=match l.getLast? with | some x => if x.mark then l.dropLast else l | none => l
def filled (P : List Pc) (ags : List Arg) : R (List HT) :=
 match fill ags P ⟨[],false⟩ with
 | none => none
 | some (.error e) => some (.error e)
 | some (.ok f) => some (.ok (unmark f.out))
def hide (l : List HT) (h : Nat) : List HT:=l.map fun x => ⟨x.t,x.hd ||| h,x.mark⟩
def cuts : List K → Nat → Nat → List Nat → Option (List Nat)
 | [],_,_,_ => none
 | t :: r,i,d,out =>
  if isP t LP then cuts r (i + 1) (d + 1) (if d = 0 then out ++ [i] else out)
  else if d = 0 then none
  else if isP t RP then (if d = 1 then some (out ++ [i]) else cuts r (i + 1) (d - 1) out)
  else if d = 1 && isP t CM then cuts r (i + 1) d (out ++ [i])
  else cuts r (i + 1) d out
def sl (l : List HT) (a b : Nat) : List HT:=(l.drop a).take (b - a)
def drop1 (n : Nat) : List (List HT) → List (List HT)
 | [] => []
 | l :: r => if l.length ≤ n then r else l.drop n :: r
def takeS (n : Nat) (st : List (List HT)) : Option (List HT × List (List HT)) :=
 match st with
 | [] => none
 | l :: r => if n ≤ l.length then some (l.take n,drop1 n (l :: r)) else none
def flat (st : List (List HT)) : List K:=(st.flatten).map (·.t)
def opens : List (List HT) → Bool
 | (x :: _) :: _ => isP x.t LP
 | _ => false
def shared (m : M) (ins : List HT) (cs : List Nat) : Except Int (List (List HT)) :=
 if !m.fn then .ok []
 else
  let n:=if m.ps.length = 0 && ins.length = 2 then 0 else cs.length - 1
  if n < m.ps.length || (decide (m.ps.length < n) && !m.va) then .error 81
  else .ok (((List.range m.ps.length).map fun i => sl ins (cs.getD i 0 + 1) (cs.getD (i + 1) 0)) ++
   (if m.va then [if m.ps.length < n then sl ins (cs.getD m.ps.length 0 + 1) (ins.length - 1) else []] else []))
structure XS where
 pl : List Nat
 steps : Nat
def bareH (l : List HT) : List K:=l.map (·.t)
def strOf (_ : List HT) : Option K:=none
def argsOf (run : XS → List HT → R (XS × List HT)) (P : List Pc) : Nat → XS → List (List HT) → R (XS × List Arg)
 | _,X,[] => some (.ok (X,[]))
 | i,X,raw :: r =>
  match (if uses 4 P i then run X raw else some (.ok (X,[]))) with
  | none => none
  | some (.error e) => some (.error e)
  | some (.ok (X1,full)) =>
   match (if uses 2 P i then strOf raw else some zeroK) with
   | none => none
   | some q =>
    match argsOf run P (i + 1) X1 r with
    | none => none
    | some (.error e) => some (.error e)
    | some (.ok (X2,ags)) => some (.ok (X2,⟨raw,full,q⟩ :: ags))
def ixOf (s : ByteArray) : List M → Nat → Option Nat
 | [],_ => none
 | m :: r,i => if m.name = s then some i else ixOf s r (i + 1)
def planIx (j : Nat) : List Nat → Nat → Option Nat
 | [],_ => none
 | a :: r,i => if a = j then some i else planIx j r (i + 1)
def macroOf (ms : List M) (X : XS) (x : HT) : Option Nat :=
 if x.t.kind = 1 then
  match ixOf x.t.text ms 0 with
  | none => none
  | some j => match planIx j X.pl 0 with | some q => if x.hd.testBit q then none else some j | none => some j
 else none
def stepOf (X : XS) (j : Nat) : Option (XS × Nat) :=
 if X.steps < 1000 then
  match planIx j X.pl 0 with
  | some q => some (⟨X.pl,X.steps + 1⟩,q)
  | none => if X.pl.length < 60 then some (⟨X.pl ++ [j],X.steps + 1⟩,X.pl.length) else none
 else none
def takeInv (m : M) (x : HT) (st : List (List HT)) : R (List HT × List Nat × Nat × List (List HT)) :=
 if m.fn then
  if 1000000 < (flat st).length then none
  else match cuts (flat st) 0 0 [] with
  | none => some (.error 80)
  | some cs =>
   match takeS (cs.getLastD 0 + 1) st with
   | none => none
   | some (ins,st') => match ins.getLast? with | none => none | some z => some (.ok (ins,cs,x.hd &&& z.hd,st'))
 else some (.ok ([],[],x.hd,st))
def fit (x : HT) (come' : List HT) (h q : Nat) : List HT:=come (hide come' (h ||| (1 <<< q))) x.t.bl
def replace (run : XS → List HT → R (XS × List HT)) (_ms : List M) (X : XS) (j : Nat) (m : M) (x : HT) (st : List (List HT)) : R (XS × List HT × List (List HT)) :=
 match takeInv m x st with
 | none => none
 | some (.error e) => some (.error e)
 | some (.ok (ins,cs,h,st')) =>
  match stepOf X j with
  | none => none
  | some (X1,q) =>
   match shared m ins cs with
   | .error e => some (.error e)
   | .ok raws =>
    match argsOf run (pieces m) 0 X1 raws with
    | none => none
    | some (.error e) => some (.error e)
    | some (.ok (X2,ags)) =>
     match filled (pieces m) ags with
     | none => none
     | some (.error e) => some (.error e)
     | some (.ok l) => some (.ok (X2,fit x l h q,st'))
def put (l : List HT) (b : Bool) (st : List (List HT)) : List (List HT) × Bool:=if l.isEmpty then (st,b) else (l :: st,false)
def next (st : List (List HT)) (b : Bool) : Option (HT × List (List HT)) :=
 match st with
 | (x :: r) :: st' => some (⟨blK x.t (x.t.bl || b),x.hd,x.mark⟩,drop1 1 ((x :: r) :: st'))
 | _ => none
def stays (x : HT) : R (XS × List HT) → R (XS × List HT)
 | some (.ok (X,l)) => some (.ok (X,x :: l))
 | o => o
def run (ms : List M) : Nat → Nat → XS → List (List HT) → Bool → R (XS × List HT)
 | 0,_,_,_,_ => none
 | n + 1,k,X,st,b =>
  match next st b with
  | none => some (.ok (X,[]))
  | some (x,st') =>
   if 1000000 < x.t.text.size then none
   else
    match macroOf ms X x with
    | none => if k < 4000 then stays x (run ms n (k + 1) X st' false) else none
    | some j =>
     match ms[j]? with
     | none => none
     | some m =>
      if m.fn && !opens st' then (if k < 4000 then stays x (run ms n (k + 1) X st' false) else none)
      else
       match replace (fun X l => run ms n 0 X (put l false []).1 false) ms X j m x st' with
       | none => none
       | some (.error e) => some (.error e)
       | some (.ok (X',l,st'')) => run ms n k X' (put l x.t.bl st'').1 (put l x.t.bl st'').2
def expand (ms : List M) (n : Nat) (l : List K) : R (XS × List HT):=run ms n 0 ⟨[],0⟩ (put (lined false l) false []).1 false
end Ep
end
section
open Go.RowKit Go.Shelf
open Ep (HT)
def nmCells (h : Nat) : Array Value:=#[.int .u64 h, .int .u64 0, .int .u64 0, .int .u64 0, .int .u64 0, .int .u64 0, .int .u64 0, .int .u64 0, .int .u64 0, .int .u64 0, .int .u64 0, .int .u64 0, .int .u64 0, .int .u64 0, .int .u64 0, .int .u64 0]
def HidP (W : World) (p : Option Addr) (h : Nat) : Prop :=
 h < 18446744073709551616 ∧ ((p = none ∧ h = 0) ∨ ∃ b,p = some ⟨b,0,none⟩ ∧ W.heap[b]? = some (.cells (nmCells h) 379 (0,0)))
def Kept (t : TypeId) (W W' : World) : Prop:=∀ (b : Nat) (cs : Array Value) (fz : Nat × Nat),W.heap[b]? = some (.cells cs t fz) → W'.heap[b]? = some (.cells cs t fz)
theorem Kept.of_below {W W' : World} (h : Below W.heap.size W W') (t : TypeId) : Kept t W W':=fun b _ _ hb => (h.block b (Array.getElem?_eq_some_iff.1 hb).1).trans hb
theorem HidP.keep {W W' : World} {p : Option Addr} {h : Nat} (hp : HidP W p h) (hk : Kept 379 W W') : HidP W' p h:=by
 obtain ⟨h0,h1⟩:=hp
 refine ⟨h0,?_⟩
 rcases h1 with h1 | ⟨b,e,hb⟩
 ·exact .inl h1
 ·exact .inr ⟨b,e,hk b _ _ hb⟩
theorem HidP.zero (W : World) : HidP W none 0:=⟨by omega, .inl ⟨rfl,rfl⟩⟩
def htAgg (x : HT) (p : Option Addr) : Value:=.agg #[.int .i64 x.t.kind, .string x.t.text, .int .i64 x.t.file, .int .i64 x.t.fr, .int .i64 x.t.en, .bool x.t.bl, .pointer p, .bool x.mark]
def htCells (x : HT) (p : Option Addr) : List Value:=kCells x.t ++ [.pointer p, .bool x.mark]
theorem htCells_length (x : HT) (p : Option Addr) : (htCells x p).length = 8:=rfl
def HAt (W : World) (g o : Nat) (x : HT) : Prop :=
 (∃ cs fz,W.heap[g]? = some (.cells cs 314 fz)) ∧ KAt W g o x.t ∧ ∃ p,W.cell? ⟨g,o + 6,none⟩ = some (.pointer p) ∧ W.cell? ⟨g,o + 7,none⟩ = some (.bool x.mark) ∧ HidP W p x.hd
theorem HAt.keep {W W' : World} {g o : Nat} {x : HT} (h : HAt W g o x) (h1 : Kept 314 W W') (h2 : Kept 379 W W') : HAt W' g o x:=by
 obtain ⟨⟨cs,fz,hg⟩,hk,p,c6,c7,hp⟩:=h
 have hg':=h1 g cs fz hg
 have hb : W'.heap[g]? = W.heap[g]?:=hg'.trans hg.symm
 exact ⟨⟨cs,fz,hg'⟩,hk.kept hb,p,(World.cell?_of_block (a:=⟨g,o + 6,none⟩) hb).trans c6,(World.cell?_of_block (a:=⟨g,o + 7,none⟩) hb).trans c7,hp.keep h2⟩
def Hs (W : World) (v : Value) (l : List HT) : Prop :=
 ∃ ad cap,v = .slice ad l.length cap ∧ l.length ≤ cap ∧ cap ≤ maxLen ∧ ∀ i x,l[i]? = some x → ∃ g o,ad = some ⟨g,o,none⟩ ∧ HAt W g (o + i * 8) x
theorem Hs.keep {W W' : World} {v : Value} {l : List HT} (h : Hs W v l) (h1 : Kept 314 W W') (h2 : Kept 379 W W') : Hs W' v l:=by
 obtain ⟨ad,cap,rfl,a1,a2,a3⟩:=h
 refine ⟨ad,cap,rfl,a1,a2,fun i x hx => ?_⟩
 obtain ⟨g,o,e,c⟩:=a3 i x hx
 exact ⟨g,o,e,c.keep h1 h2⟩
theorem Hs.below {W W' : World} {v : Value} {l : List HT} (h : Hs W v l) (hb : Below W.heap.size W W') : Hs W' v l:=h.keep (Kept.of_below hb _) (Kept.of_below hb _)
theorem Hs.nil (W : World) (ad : Option Addr) (cap : Nat) (hc : cap ≤ maxLen) : Hs W (.slice ad 0 cap) [] :=
 ⟨ad,cap,rfl,Nat.zero_le _,hc,fun i t ht => by simp at ht⟩
theorem Hs.form {W : World} {v : Value} {l : List HT} (h : Hs W v l) : ∃ ad cap,v = .slice ad l.length cap ∧ l.length ≤ cap ∧ cap ≤ maxLen:=by
 obtain ⟨ad,cap,rfl,h1,h2,_⟩:=h
 exact ⟨ad,cap,rfl,h1,h2⟩
theorem Hs.part {W : World} {g o n cap : Nat} {l : List HT} (h : Hs W (.slice (some ⟨g,o,none⟩) n cap) l) (a b x : Nat) (hab : a ≤ b) (hb : b ≤ l.length) (hx : a < cap → x = a * 8) :
  Hs W (.slice (some ⟨g,o + x,none⟩) (b - a) (cap - a)) (Ep.sl l a b):=by
 obtain ⟨ad',cap',e,h1,h2,h3⟩:=h
 injection e with e1 e2 e3
 subst e1 e2 e3
 unfold Ep.sl
 have hl : ((l.drop a).take (b - a)).length = b - a:=by rw [List.length_take,List.length_drop]; omega
 refine ⟨_,cap - a,by rw [hl],by rw [hl]; omega,by omega,fun i t ht => ?_⟩
 have hi : i < b - a:=by have:=(List.getElem?_eq_some_iff.1 ht).1; omega
 rw [List.getElem?_take,if_pos hi,List.getElem?_drop] at ht
 obtain ⟨g',o',e',ha⟩:=h3 _ t ht
 injection e' with e'
 injection e' with e4 e5
 subst e4 e5
 refine ⟨g,o + x,rfl,?_⟩
 rw [hx (by omega),show o + a * 8 + i * 8 = o + (a + i) * 8 by omega]
 exact ha
def HCs (W : World) : List HT → List Value → Prop
 | [],cs => cs = []
 | x :: l,cs => ∃ p r,cs = htCells x p ++ r ∧ HidP W p x.hd ∧ HCs W l r
theorem HCs.keep {W W' : World} (hk : Kept 379 W W') : ∀ {l : List HT} {cs : List Value},HCs W l cs → HCs W' l cs
 | [],_,h => h
 | _ :: _,_,⟨p,r,e,hp,h⟩ => ⟨p,r,e,hp.keep hk,HCs.keep hk h⟩
theorem HCs.length {W : World} : ∀ {l : List HT} {cs : List Value},HCs W l cs → cs.length = l.length * 8
 | [],_,h => by rw [show _ = [] from h]; rfl
 | x :: l,_,⟨p,r,e,_,h⟩ => by rw [e,List.length_append,htCells_length,HCs.length h,List.length_cons]; omega
theorem HCs.append {W : World} : ∀ {l : List HT} {cs : List Value} {m : List HT} {ds : List Value},HCs W l cs → HCs W m ds → HCs W (l ++ m) (cs ++ ds)
 | [],_,_,_,h,k => by rw [show _ = [] from h]; exact k
 | x :: l,_,m,ds,⟨p,r,e,hp,h⟩,k => ⟨p,r ++ ds,by rw [e,List.append_assoc],hp,HCs.append h k⟩
theorem HCs.one {W : World} {x : HT} {p : Option Addr} (hp : HidP W p x.hd) : HCs W [x] (htCells x p):=⟨p,[],(List.append_nil _).symm,hp,rfl⟩
theorem HCs.snoc {W : World} {l : List HT} {cs : List Value} {x : HT} {p : Option Addr} (h : HCs W l cs) (hp : HidP W p x.hd) : HCs W (l ++ [x]) (cs ++ htCells x p):=h.append (HCs.one hp)
theorem HCs.get {W : World} : ∀ {l : List HT} {cs : List Value},HCs W l cs → ∀ (i : Nat) (x : HT),l[i]? = some x → ∃ p,HidP W p x.hd ∧ ∀ (j : Nat) (v : Value),(htCells x p)[j]? = some v → cs[i * 8 + j]? = some v
 | [],_,_,i,x,hx => by simp at hx
 | y :: l,cs,⟨p,r,e,hp,h⟩,i,x,hx => by
  subst e
  have h8:=htCells_length y p
  cases i with
  | zero =>
   simp at hx; subst hx
   refine ⟨p,hp,fun j v hj => ?_⟩
   have hlt:=(List.getElem?_eq_some_iff.1 hj).1
   rw [List.getElem?_append_left (by omega),Nat.zero_mul,Nat.zero_add]
   exact hj
  | succ i =>
   simp at hx
   obtain ⟨q,hq,hc⟩:=HCs.get h i x hx
   refine ⟨q,hq,fun j v hj => ?_⟩
   rw [List.getElem?_append_right (by omega),h8,show (i + 1) * 8 + j - 8 = i * 8 + j by omega]
   exact hc j v hj
theorem HCs.dropLast {W : World} : ∀ {l : List HT} {cs : List Value},HCs W l cs → HCs W l.dropLast (cs.take (l.dropLast.length * 8))
 | [],_,h => by rw [show _ = [] from h]; rfl
 | [x],_,⟨p,r,e,hp,h⟩ => by
  show HCs W [] (List.take (0 * 8) _)
  rw [Nat.zero_mul,List.take_zero]
  rfl
 | x :: y :: l,_,⟨p,r,e,hp,h⟩ => by
  subst e
  refine ⟨p,r.take ((y :: l).dropLast.length * 8),?_,hp,HCs.dropLast h⟩
  rw [show (x :: y :: l).dropLast = x :: (y :: l).dropLast from rfl,List.length_cons,Nat.add_mul,Nat.one_mul,List.take_append,htCells_length,List.take_of_length_le (by rw [htCells_length]; omega),Nat.add_sub_cancel]
def HRow (W : World) (B : Nat) (v : Value) (l : List HT) : Prop:=∃ cs,W.ownsRow B 314 8 v l.length cs ∧ HCs W l cs
theorem HRow.nil (W : World) (B : Nat) : HRow W B (.slice none 0 0) []:=⟨[],World.ownsRow_nil _ _ _ _,rfl⟩
theorem HRow.below {W W' : World} {B : Nat} {v : Value} {l : List HT} (h : HRow W B v l) (hb : Below W.heap.size W W') : HRow W' B v l:=by
 obtain ⟨cs,h1,h2⟩:=h
 exact ⟨cs,row_below h1 hb,h2.keep (Kept.of_below hb _)⟩
theorem HRow.hs {W : World} {B : Nat} {v : Value} {l : List HT} (h : HRow W B v l) : Hs W v l:=by
 obtain ⟨cs,h,hcs⟩:=h
 have hc:=fun g => h.cells (g:=g)
 rcases h.2 with ⟨rfl,h0⟩ | ⟨g,cap,cur,rfl,_,hblk,h1,h2,_,_⟩
 ·refine ⟨none,0,by rw [h0],by omega,Nat.zero_le _,fun i x hx => ?_⟩
  rw [List.length_eq_zero_iff.1 h0] at hx
  simp at hx
 ·refine ⟨_,cap,rfl,h1,h2,fun i t ht => ⟨g,0,rfl,?_⟩⟩
  obtain ⟨p,hp,hget⟩:=hcs.get i t ht
  have key : ∀ j v,(htCells t p)[j]? = some v → W.cell? ⟨g,0 + (i * 8 + j),none⟩ = some v:=fun j v hj => by
   have:=hc g rfl (i * 8 + j) v (hget j v hj)
   rwa [add_none] at this
  refine ⟨⟨_,_,hblk⟩,⟨key 0 _ rfl,?_,?_,?_,?_,?_⟩,p,?_,?_,hp⟩
  ·exact key 1 _ rfl
  ·exact key 2 _ rfl
  ·exact key 3 _ rfl
  ·exact key 4 _ rfl
  ·exact key 5 _ rfl
  ·exact key 6 _ rfl
  ·exact key 7 _ rfl
theorem infoHt : (Tryz.prog.info? 314).map (fun i => (i.zero,i.size,i.bytes)) = some (some (.agg #[.int .i64 0, .string ByteArray.empty, .int .i64 0, .int .i64 0, .int .i64 0, .bool false, .pointer none, .bool false]),8,72):=by kernel_rfl
def okO (x : Bool) (n b : Nat) : Obj → Prop
 | .cells _ t _ => (x = true → t ≠ 303 ∧ t ≠ 307) ∧ ((t ≠ 310 ∧ t ≠ 267) ∨ b < n)
 | _ => True
structure Fr (x : Bool) (N n : Nat) (w w' : World) : Prop where
 os : w'.os = w.os
 tape : w'.tape = w.tape
 output : w'.output = w.output
 size : w.heap.size ≤ w'.heap.size
 block : ∀ b o,w.heap[b]? = some o → (b < N ∨ okO x n b o) → w'.heap[b]? = some o
section
variable {x : Bool} {N n m : Nat} {w w1 w' : World}
theorem Fr.refl (x : Bool) (N n : Nat) (w : World) : Fr x N n w w:=⟨rfl,rfl,rfl,Nat.le_refl _,fun _ _ h _ => h⟩
theorem Fr.trans (h : Fr x N n w w1) (k : Fr x N n w1 w') : Fr x N n w w' :=
 ⟨k.os.trans h.os,k.tape.trans h.tape,k.output.trans h.output,Nat.le_trans h.size k.size,fun b o hb ho => k.block b o (h.block b o hb ho) ho⟩
theorem Fr.of_below (h : Below w.heap.size w w') : Fr x N n w w' :=
 ⟨h.os,h.tape,h.output,h.size,fun b _ hb _ => (h.block b (Array.getElem?_eq_some_iff.1 hb).1).trans hb⟩
theorem Fr.le (h : Fr x N n w w') (hm : m ≤ n) : Fr x N m w w':=⟨h.os,h.tape,h.output,h.size,fun b o hb ho => h.block b o hb (by
 rcases ho with ho | ho
 ·exact .inl ho
 ·right
  cases o with
  | cells cs t fz =>
   refine ⟨ho.1,?_⟩
   rcases ho.2 with h | h
   ·exact .inl h
   ·exact .inr (by omega)
  | _ => trivial)⟩
theorem Fr.any (h : Fr false N n w w') : Fr x N n w w':=⟨h.os,h.tape,h.output,h.size,fun b o hb ho => h.block b o hb (by
 rcases ho with ho | ho
 ·exact .inl ho
 ·right
  cases o with
  | cells cs t fz => exact ⟨fun e => (by cases e),ho.2⟩
  | _ => trivial)⟩
theorem Fr.below (h : Fr x N n w w') (hN : N ≤ w.heap.size) : Below N w w' :=
 ⟨h.os,h.tape,h.output,h.size,fun b hb => by
  have hlt : b < w.heap.size:=by omega
  rw [h.block b _ (Array.getElem?_eq_getElem hlt) (.inl hb),Array.getElem?_eq_getElem hlt]⟩
theorem Fr.kept (h : Fr x N n w w') {t : TypeId} (h1 : t ≠ 303) (h2 : t ≠ 307) (h3 : t ≠ 310) (h4 : t ≠ 267) : Kept t w w' :=
 fun b _ _ hb => h.block b _ hb (.inr ⟨fun _ => ⟨h1,h2⟩, .inl ⟨h3,h4⟩⟩)
theorem Fr.ht (h : Fr x N n w w') : Kept 314 w w':=h.kept (by decide) (by decide) (by decide) (by decide)
theorem Fr.nm (h : Fr x N n w w') : Kept 379 w w':=h.kept (by decide) (by decide) (by decide) (by decide)
theorem Fr.hid (h : Fr x N n w w') {p : Option Addr} {q : Nat} (hp : HidP w p q) : HidP w' p q:=hp.keep h.nm
end
end
end Go.Proofs.YthekfpgegiffoaaGreatDoor
