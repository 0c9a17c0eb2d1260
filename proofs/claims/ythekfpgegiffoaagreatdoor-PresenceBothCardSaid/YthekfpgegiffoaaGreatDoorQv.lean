/- What is proved: what Depth and Flat tell of any tree. (and what stands with it) -/
import Derived.Test.YthekfpgegiffoaaGreatDoorQu
import Derived.Deep.RegionLaw
import Derived.StillTailTactics
set_option linter.unusedSimpArgs false
set_option linter.unusedVariables false
set_option maxHeartbeats 16000000
set_option maxRecDepth 100000
namespace Go.Proofs.YthekfpgegiffoaaGreatDoor
namespace Cnd
open Go.RowKit
open Ct Ct.T
theorem app_snoc (d : T) (l e : Nat) (s r : T) : d.app (cons l e s r) = (d.snoc l e s).app r:=by rw [snoc,app_assoc]; rfl
structure Gr (w w' : World) (u u' : Value) : Prop where
 g : w.grownBy w' u.ownBlock
 own : ∀ k,u'.ownBlock = some k → u.ownBlock = some k ∨ w.heap.size ≤ k
theorem Gr.block {w w' : World} {u u' : Value} (h : Gr w w' u u') {k : Nat} (hk : k < w.heap.size) (hn : u.ownBlock ≠ some k) : w'.heap[k]? = w.heap[k]?:=h.g.block k hk (fun e => hn e.symm)
theorem Gr.trans {w w1 w2 : World} {u u1 u2 : Value} (h : Gr w w1 u u1) (k : Gr w1 w2 u1 u2) : Gr w w2 u u2:=by
 refine ⟨⟨k.g.os.trans h.g.os,k.g.tape.trans h.g.tape,k.g.output.trans h.g.output,Nat.le_trans h.g.size k.g.size,fun j hj hn => ?_⟩,fun j hj => ?_⟩
 ·refine (k.g.block j (Nat.lt_of_lt_of_le hj h.g.size) fun e => ?_).trans (h.g.block j hj hn)
  rcases h.own j e.symm with h' | h'
  ·exact hn h'.symm
  ·omega
 ·rcases k.own j hj with h' | h'
  ·exact h.own j h'
  ·exact .inr (Nat.le_trans h.g.size h')
theorem Gr.alloc (w : World) (u : Value) (o : Obj) : Gr w (w.alloc o) u u :=
 ⟨⟨rfl,rfl,rfl,by simp,fun k hk _ => Below.heap_alloc w o k hk⟩,fun _ h => .inl h⟩
theorem Gr.lies {w w' : World} {u : Value} {g n cap : Nat} (h : w.grownBy w' u.ownBlock) (hg : u.ownBlock = some g ∨ g = w.heap.size) : Gr w w' u (.slice (some ⟨g,0,none⟩) n cap):=by
 refine ⟨h,fun k hk => ?_⟩
 simp only [Value.ownBlock,Option.some.injEq] at hk
 subst hk
 rcases hg with hg | hg
 ·exact .inl hg
 ·exact .inr (by omega)
end Cnd
namespace Cnd
open Go.RowKit
open Ct Ct.T
theorem Gr.drew (w : World) (u : Value) : Gr w w.drew u u:=⟨⟨rfl,rfl,rfl,Nat.le_refl _,fun _ _ _ => rfl⟩,fun _ h => .inl h⟩
theorem ownsRow_take {w : World} {base e size g cap n m : Nat} {xs : List Value} (h : w.ownsRow base e size (.slice (some ⟨g,0,none⟩) n cap) n xs) (hm : m ≤ n) : w.ownsRow base e size (.slice (some ⟨g,0,none⟩) m cap) m (xs.take (m * size)):=by
 obtain ⟨h1,h2⟩:=h
 rcases h2 with ⟨h0,_⟩ | ⟨g',cap',cur,hv,hg,hh,hn,hcap,hsz,htake⟩
 ·cases h0
 ·cases hv
  have hms : m * size ≤ n * size:=Nat.mul_le_mul_right _ hm
  refine ⟨by rw [List.length_take]; omega, .inr ⟨g,cap,cur,rfl,hg,hh,by omega,hcap,hsz,?_⟩⟩
  rw [← htake,List.take_take,Nat.min_eq_left hms]
end Cnd
namespace Cnd
open Go.RowKit
open Ct Ct.T
structure Only (W W' : World) (X : Nat → Prop) : Prop where
 os : W'.os = W.os
 tape : W'.tape = W.tape
 output : W'.output = W.output
 size : W.heap.size ≤ W'.heap.size
 block : ∀ k,k < W.heap.size → ¬ X k → W'.heap[k]? = W.heap[k]?
theorem Only.of_gr {W W' : World} {v v' : Value} (h : Gr W W' v v') : Only W W' (fun k => v.ownBlock = some k):=⟨h.g.os,h.g.tape,h.g.output,h.g.size,fun _ hk hn => h.block hk hn⟩
theorem Only.set {W W' : World} {X : Nat → Prop} (h : Only W W' X) (a : Addr) (u : Value) : Only W (W'.setCell a u) (fun k => X k ∨ k = a.block) :=
 ⟨h.os,h.tape,h.output,by simpa using h.size,fun k hk hn => by
  have hn' : ¬ X k ∧ k ≠ a.block:=⟨fun h => hn (.inl h),fun h => hn (.inr h)⟩
  rw [Below.heap_setCell _ _ _ _ hn'.2]; exact h.block k hk hn'.1⟩
theorem Only.below {W W' : World} {X : Nat → Prop} {B : Nat} (h : Only W W' X) (hB : B ≤ W.heap.size) (hX : ∀ k,X k → B ≤ k) : Below B W W' :=
 ⟨h.os,h.tape,h.output,h.size,fun k hk => h.block k (by omega) fun x => by have:=hX k x; omega⟩
def Ap (a b : Value) : Prop:=∀ k,a.ownBlock = some k → b.ownBlock ≠ some k
theorem Ap.symm {a b : Value} (h : Ap a b) : Ap b a:=fun k e e' => h k e' e
def owns (vs : List (Value × Value)) : List Value:=vs.flatMap fun p => [p.1,p.2]
def own (tv iv : Value) (vs : List (Value × Value)) : List Value:=tv :: iv :: owns vs
def okb (R : Nat) (L : List Value) (g : Nat) : Prop:=g ≠ R ∧ ∀ v ∈ L,v.ownBlock ≠ some g
theorem ok_step {W W' : World} {R : Nat} {L L' : List Value} {X : Nat → Prop} (hO : Only W W' X) (hX : ∀ g,okb R L g → ¬ X g)
  (hS : ∀ v' ∈ L',∀ k,v'.ownBlock = some k → (∃ v ∈ L,v.ownBlock = some k) ∨ W.heap.size ≤ k) : ∀ g,okb R L g → g < W.heap.size → okb R L' g ∧ W'.heap[g]? = W.heap[g]?:=fun g hg hlt =>
 ⟨⟨hg.1,fun v' hv' e => by
  rcases hS v' hv' g e with ⟨v,hv,e'⟩ | h
  ·exact hg.2 v hv e'
  ·omega⟩,hO.block g hlt (hX g hg)⟩
structure FrOk (W : World) (base : Nat) (ok : Nat → Prop) (f : Fm) (bv lv : Value) (bxs lxs : List Value) : Prop where
 brow : W.ownsRow base 148 2 bv (f.dn.len + 1) (bxs ++ [.int .i64 f.b,lv])
 bct : CT W ok false bxs f.dn
 lrow : W.ownsRow base 124 3 lv f.cur.len lxs
 lct : CT W ok true lxs f.cur
def Frs (W : World) (base : Nat) (ok : Nat → Prop) : List Value → List Fm → List (Value × Value) → Prop
 | cs,[],[] => cs = []
 | cs,f :: st,p :: vs => ∃ cs' bxs lxs,cs = cs' ++ [.int .i64 f.line, .int .i64 0,p.1, .bool f.els] ∧ FrOk W base ok f p.1 p.2 bxs lxs ∧ Frs W base ok cs' st vs
 | _,_,_ => False
theorem FrOk.keep {W W' : World} {base : Nat} {ok ok' : Nat → Prop} {f : Fm} {bv lv : Value} {bxs lxs : List Value} (h : FrOk W base ok f bv lv bxs lxs) (hk : ∀ g,ok g → g < W.heap.size → ok' g ∧ W'.heap[g]? = W.heap[g]?)
  (h1 : ∀ k,bv.ownBlock = some k → W'.heap[k]? = W.heap[k]?) (h2 : ∀ k,lv.ownBlock = some k → W'.heap[k]? = W.heap[k]?) : FrOk W' base ok' f bv lv bxs lxs :=
 ⟨row_heap h.brow h1,CT.keep hk _ _ _ h.bct,row_heap h.lrow h2,CT.keep hk _ _ _ h.lct⟩
theorem Frs.keep {W W' : World} {base : Nat} {ok ok' : Nat → Prop} (hk : ∀ g,ok g → g < W.heap.size → ok' g ∧ W'.heap[g]? = W.heap[g]?) (st : List Fm) : ∀ (vs : List (Value × Value)) (cs : List Value),Frs W base ok cs st vs →
  (∀ v ∈ owns vs,∀ k,v.ownBlock = some k → W'.heap[k]? = W.heap[k]?) → Frs W' base ok' cs st vs:=by
 induction st with
 | nil => intro vs cs h _; cases vs with
  | nil => exact h
  | cons p vs => exact h
 | cons f st ih =>
  intro vs cs h hb
  cases vs with
  | nil => exact h
  | cons p vs =>
   obtain ⟨cs',bxs,lxs,rfl,h1,h2⟩:=h
   exact ⟨cs',bxs,lxs,rfl,h1.keep hk (hb _ (by simp [owns])) (hb _ (by simp [owns])),ih vs cs' h2 fun v hv => hb v (by
    simp only [owns,List.flatMap_cons,List.mem_append]; exact .inr hv)⟩
theorem Frs.length {W : World} {base : Nat} {ok : Nat → Prop} (st : List Fm) : ∀ (vs : List (Value × Value)) (cs : List Value),Frs W base ok cs st vs → cs.length = st.length * 4:=by
 induction st with
 | nil => intro vs cs h; cases vs with
  | nil => rw [show cs = [] from h]; rfl
  | cons p vs => exact h.elim
 | cons f st ih =>
  intro vs cs h
  cases vs with
  | nil => exact h.elim
  | cons p vs =>
   obtain ⟨cs',bxs,lxs,rfl,h1,h2⟩:=h
   have:=ih vs cs' h2
   simp only [List.length_append,List.length_cons,List.length_nil,this]; omega
theorem Frs.lt {W : World} {base : Nat} {ok : Nat → Prop} (st : List Fm) : ∀ (vs : List (Value × Value)) (cs : List Value),Frs W base ok cs st vs → ∀ v ∈ owns vs,∀ k,v.ownBlock = some k → base ≤ k ∧ k < W.heap.size:=by
 induction st with
 | nil => intro vs cs h; cases vs with
  | nil => intro v hv; simp [owns] at hv
  | cons p vs => exact h.elim
 | cons f st ih =>
  intro vs cs h
  cases vs with
  | nil => exact h.elim
  | cons p vs =>
   obtain ⟨cs',bxs,lxs,rfl,h1,h2⟩:=h
   intro v hv
   simp only [owns,List.flatMap_cons,List.cons_append,List.nil_append,List.mem_cons] at hv
   rcases hv with rfl | rfl | hv
   ·exact h1.brow.lt
   ·exact h1.lrow.lt
   ·exact ih vs cs' h2 v hv
structure RS (W : World) (base R : Nat) (s : S) (tv iv : Value) (vs : List (Value × Value)) (cs xs : List Value) : Prop where
 blk : W.heap[R]? = some (.cells #[iv,tv] 117 (0,0))
 hR : base ≤ R
 nR : ∀ v ∈ own tv iv vs,v.ownBlock ≠ some R
 ap : (own tv iv vs).Pairwise Ap
 trow : W.ownsRow base 126 4 tv s.2.length cs
 fr : Frs W base (okb R (own tv iv vs)) cs s.2 vs
 irow : W.ownsRow base 124 3 iv s.1.len xs
 out : CT W (okb R (own tv iv vs)) true xs s.1
section
variable {W W1 : World} {base R : Nat} {s : S} {tv iv : Value} {vs : List (Value × Value)} {cs xs : List Value}
theorem RS.lt (h : RS W base R s tv iv vs cs xs) : ∀ v ∈ own tv iv vs,∀ k,v.ownBlock = some k → base ≤ k ∧ k < W.heap.size:=by
 intro v hv
 simp only [own,List.mem_cons] at hv
 rcases hv with rfl | rfl | hv
 ·exact h.trow.lt
 ·exact h.irow.lt
 ·exact Frs.lt _ _ _ h.fr v hv
theorem RS.ltR (h : RS W base R s tv iv vs cs xs) : R < W.heap.size:=lt_of_block h.blk
theorem RS.keep (h : RS W base R s tv iv vs cs xs) (hO : Only W W1 (fun _ => False)) : RS W1 base R s tv iv vs cs xs:=by
 have hb : ∀ v ∈ own tv iv vs,∀ k,v.ownBlock = some k → W1.heap[k]? = W.heap[k]?:=fun v hv k e => hO.block k (h.lt v hv k e).2 (fun h => h)
 have hk : ∀ g,okb R (own tv iv vs) g → g < W.heap.size → okb R (own tv iv vs) g ∧ W1.heap[g]? = W.heap[g]?:=fun g hg hlt => ⟨hg,hO.block g hlt (fun h => h)⟩
 exact ⟨(hO.block R h.ltR (fun h => h)).trans h.blk,h.hR,h.nR,h.ap,row_heap h.trow (hb _ (by simp [own])),Frs.keep hk _ _ _ h.fr (fun v hv => hb v (by simp [own,hv])),row_heap h.irow (hb _ (by simp [own])),CT.keep hk _ _ _ h.out⟩
theorem RS.drewN (h : RS W base R s tv iv vs cs xs) (q : Nat) : RS (W.drewN q) base R s tv iv vs cs xs:=h.keep ⟨rfl,rfl,rfl,Nat.le_refl _,fun _ _ _ => rfl⟩
theorem RS.alloc (h : RS W base R s tv iv vs cs xs) (o : Obj) : RS (W.alloc o) base R s tv iv vs cs xs:=h.keep ⟨rfl,rfl,rfl,by simp,fun k hk _ => Below.heap_alloc W o k hk⟩
end
theorem Ap.grow {W W1 : World} {v v' u : Value} (hG : Gr W W1 v v') (hu : ∀ k,u.ownBlock = some k → k < W.heap.size) (a : Ap v u) : Ap v' u:=fun k e e' => by
 rcases hG.own k e with h | h
 ·exact a k h e'
 ·have:=hu k e'; omega
theorem Gr.not {W W1 : World} {v v' : Value} {R : Nat} (hG : Gr W W1 v v') (hR : R < W.heap.size) (h : v.ownBlock ≠ some R) : v'.ownBlock ≠ some R:=fun e => by
 rcases hG.own R e with h' | h'
 ·exact h h'
 ·omega
theorem nil_own (c : Nat) (n : Nat) : (Value.slice none n c).ownBlock = none:=rfl
theorem RS.addNil {W W1 : World} {base R : Nat} {out : T} {tv iv iv' sv : Value} {cs xs : List Value} {l e : Nat} {s' : T} (h : RS W base R (out,[]) tv iv [] cs xs) (hG : Gr W W1 iv iv')
  (hrow : W1.ownsRow base 124 3 iv' (out.len + 1) (xs ++ [.int .i64 l, .int .i64 e,sv])) (hs : TS W (okb R (own tv iv [])) false sv s') :
  RS (W1.setCell ⟨R,0,none⟩ iv') base R (add l e s' (out,[])) tv iv' [] cs (xs ++ [.int .i64 l, .int .i64 e,sv]) ∧ Only W (W1.setCell ⟨R,0,none⟩ iv') (fun k => iv.ownBlock = some k ∨ k = R):=by
 have hO : Only W (W1.setCell ⟨R,0,none⟩ iv') (fun k => iv.ownBlock = some k ∨ k = R):=(Only.of_gr hG).set ⟨R,0,none⟩ iv'
 have hnR : iv.ownBlock ≠ some R:=h.nR _ (by simp [own])
 have hnR':=hG.not h.ltR hnR
 have hlt:=h.lt
 have htv : ∀ k,tv.ownBlock = some k → (W1.setCell ⟨R,0,none⟩ iv').heap[k]? = W.heap[k]?:=fun k e => by
  refine hO.block k (hlt _ (by simp [own]) k e).2 ?_
  rintro (h1 | rfl)
  ·have:=h.ap; simp only [own,owns,List.flatMap_nil,List.pairwise_cons,List.mem_cons,List.not_mem_nil,or_false,forall_eq] at this; exact this.1 k e h1
  ·exact h.nR _ (by simp [own]) e
 have hk:=ok_step (R:=R) (L:=own tv iv []) (L':=own tv iv' []) hO (fun g hg => by
   rintro (h1 | rfl)
   ·exact hg.2 _ (by simp [own]) h1
   ·exact hg.1 rfl) (fun v' hv' k e => by
   simp only [own,owns,List.flatMap_nil,List.mem_cons,List.not_mem_nil,or_false] at hv'
   rcases hv' with rfl | rfl
   ·exact .inl ⟨_,by simp [own],e⟩
   ·rcases hG.own k e with h1 | h1
    ·exact .inl ⟨_,by simp [own],h1⟩
    ·exact .inr h1)
 have hb : W1.heap[R]? = some (.cells #[iv,tv] 117 (0,0)):=(hG.block h.ltR hnR).trans h.blk
 refine ⟨⟨?_,h.hR,?_,?_,row_heap h.trow htv,Frs.keep hk _ _ _ h.fr (by simp [owns]),?_,?_⟩,hO⟩
 ·simp [World.setCell,Array.getElem?_modify,hb]
 ·intro v hv
  simp only [own,owns,List.flatMap_nil,List.mem_cons,List.not_mem_nil,or_false] at hv
  rcases hv with rfl | rfl
  ·exact h.nR _ (by simp [own])
  ·exact hnR'
 ·have:=h.ap
  simp only [own,owns,List.flatMap_nil,List.pairwise_cons,List.mem_cons,List.not_mem_nil,or_false,forall_eq,List.Pairwise.nil,and_true,forall_const,false_implies] at this ⊢
  exact (Ap.grow hG (fun k e => (hlt _ (by simp [own]) k e).2) this.symm).symm
 ·rw [show (add l e s' (out,[])).1.len = out.len + 1 from len_snoc _ _ _ _]
  exact ownsRow_setCell_other hrow hnR' _
 ·exact CT.app _ _ _ _ _ (CT.keep hk _ _ _ h.out) (CT.item1 (TS.keep hs hk))
theorem set_last2 (bxs : List Value) (a b b' : Value) (n : Nat) (h : bxs.length = n) : (bxs ++ [a,b]).set (n + 1) b' = bxs ++ [a,b']:=by
 subst h
 rw [List.set_append_right _ _ (by omega),show bxs.length + 1 - bxs.length = 1 by omega]; rfl
theorem set_last4 (bxs : List Value) (a b c d c' : Value) (n : Nat) (h : bxs.length = n) : (bxs ++ [a,b,c,d]).set (n + 2) c' = bxs ++ [a,b,c',d]:=by
 subst h
 rw [List.set_append_right _ _ (by omega),show bxs.length + 2 - bxs.length = 2 by omega]; rfl
theorem set_last4' (bxs : List Value) (a b c d d' : Value) (n : Nat) (h : bxs.length = n) : (bxs ++ [a,b,c,d]).set (n + 3) d' = bxs ++ [a,b,c,d']:=by
 subst h
 rw [List.set_append_right _ _ (by omega),show bxs.length + 3 - bxs.length = 3 by omega]; rfl
theorem mem_own_cons {tv iv : Value} {p : Value × Value} {vs : List (Value × Value)} {v : Value} : v ∈ own tv iv (p :: vs) ↔ v = tv ∨ v = iv ∨ v = p.1 ∨ v = p.2 ∨ v ∈ owns vs:=by
 simp [own,owns]
theorem mem_own {tv iv : Value} {vs : List (Value × Value)} {v : Value} : v ∈ own tv iv vs ↔ v = tv ∨ v = iv ∨ v ∈ owns vs:=by
 simp [own]
theorem own_pair {tv iv : Value} {p : Value × Value} {vs : List (Value × Value)} : (own tv iv (p :: vs)).Pairwise Ap ↔ (Ap tv iv ∧ Ap tv p.1 ∧ Ap tv p.2 ∧ ∀ v ∈ owns vs,Ap tv v) ∧ (Ap iv p.1 ∧ Ap iv p.2 ∧ ∀ v ∈ owns vs,Ap iv v) ∧ (Ap p.1 p.2 ∧ ∀ v ∈ owns vs,Ap p.1 v) ∧ (∀ v ∈ owns vs,Ap p.2 v) ∧ (owns vs).Pairwise Ap:=by
 simp [own,owns,List.pairwise_cons]
theorem own_pair0 {tv iv : Value} {vs : List (Value × Value)} : (own tv iv vs).Pairwise Ap ↔ (Ap tv iv ∧ ∀ v ∈ owns vs,Ap tv v) ∧ (∀ v ∈ owns vs,Ap iv v) ∧ (owns vs).Pairwise Ap:=by
 simp [own,List.pairwise_cons]
theorem RS.addTop {W W1 : World} {base R : Nat} {out : T} {f : Fm} {st : List Fm} {tv iv bv lv lv' sv : Value} {vs : List (Value × Value)} {cs' bxs lxs xs : List Value} {l e gb bc : Nat} {s' : T}
  (h : RS W base R (out,f :: st) tv iv ((bv,lv) :: vs) (cs' ++ [.int .i64 f.line, .int .i64 0,bv, .bool f.els]) xs) (hf : FrOk W base (okb R (own tv iv ((bv,lv) :: vs))) f bv lv bxs lxs) (hfs : Frs W base (okb R (own tv iv ((bv,lv) :: vs))) cs' st vs)
  (hG : Gr W W1 lv lv') (hrow : W1.ownsRow base 124 3 lv' (f.cur.len + 1) (lxs ++ [.int .i64 l, .int .i64 e,sv])) (hs : TS W (okb R (own tv iv ((bv,lv) :: vs))) false sv s') (hbv : bv = .slice (some ⟨gb,0,none⟩) (f.dn.len + 1) bc) :
  RS (W1.setCell ⟨gb,f.dn.len * 2 + 1,none⟩ lv') base R (add l e s' (out,f :: st)) tv iv ((bv,lv') :: vs) (cs' ++ [.int .i64 f.line, .int .i64 0,bv, .bool f.els]) xs ∧ Only W (W1.setCell ⟨gb,f.dn.len * 2 + 1,none⟩ lv') (fun k => lv.ownBlock = some k ∨ k = gb):=by
 have hO : Only W (W1.setCell ⟨gb,f.dn.len * 2 + 1,none⟩ lv') (fun k => lv.ownBlock = some k ∨ k = gb):=(Only.of_gr hG).set ⟨gb,f.dn.len * 2 + 1,none⟩ lv'
 have hgb : bv.ownBlock = some gb:=by rw [hbv]; rfl
 obtain ⟨⟨a1,a2,a3,a4⟩,⟨a5,a6,a7⟩,⟨a8,a9⟩,a10,a11⟩:=own_pair.1 h.ap
 dsimp only at a2 a3 a5 a6 a8 a9 a10
 have hlt:=fun v hv k e => (h.lt v hv k e).2
 have hother : ∀ v,v ∈ own tv iv ((bv,lv) :: vs) → Ap v bv → Ap v lv → ∀ k,v.ownBlock = some k → (W1.setCell ⟨gb,f.dn.len * 2 + 1,none⟩ lv').heap[k]? = W.heap[k]?:=fun v hv h1 h2 k e => by
  refine hO.block k (hlt v hv k e) ?_
  rintro (h3 | rfl)
  ·exact h2 k e h3
  ·exact h1 k e hgb
 have hS : ∀ v' ∈ own tv iv ((bv,lv') :: vs),∀ k,v'.ownBlock = some k → (∃ v ∈ own tv iv ((bv,lv) :: vs),v.ownBlock = some k) ∨ W.heap.size ≤ k:=fun v' hv' k e => by
  rcases mem_own_cons.1 hv' with rfl | rfl | rfl | rfl | hv'
  ·exact .inl ⟨_,mem_own_cons.2 (.inl rfl),e⟩
  ·exact .inl ⟨_,mem_own_cons.2 (.inr (.inl rfl)),e⟩
  ·exact .inl ⟨_,mem_own_cons.2 (.inr (.inr (.inl rfl))),e⟩
  ·rcases hG.own k e with h1 | h1
   ·exact .inl ⟨_,mem_own_cons.2 (.inr (.inr (.inr (.inl rfl)))),h1⟩
   ·exact .inr h1
  ·exact .inl ⟨_,mem_own_cons.2 (.inr (.inr (.inr (.inr hv')))),e⟩
 have hk:=ok_step (R:=R) (L:=own tv iv ((bv,lv) :: vs)) (L':=own tv iv ((bv,lv') :: vs)) hO (fun g hg => by
   rintro (h1 | rfl)
   ·exact hg.2 _ (mem_own_cons.2 (.inr (.inr (.inr (.inl rfl))))) h1
   ·exact hg.2 _ (mem_own_cons.2 (.inr (.inr (.inl rfl)))) hgb) hS
 have hlR : lv.ownBlock ≠ some R:=h.nR _ (mem_own_cons.2 (.inr (.inr (.inr (.inl rfl)))))
 have hgR : gb ≠ R:=fun e => h.nR _ (mem_own_cons.2 (.inr (.inr (.inl rfl)))) (by rw [hgb,e])
 have hbW1 : W1.ownsRow base 148 2 bv (f.dn.len + 1) (bxs ++ [.int .i64 f.b,lv]):=row_heap hf.brow fun k e => hG.block (hlt _ (mem_own_cons.2 (.inr (.inr (.inl rfl)))) k e) (a8 k e)
 have hbl : bxs.length = f.dn.len * 2:=CT.length _ _ _ hf.bct
 have hlv' : lv'.ownBlock ≠ some gb:=hG.not (hlt _ (mem_own_cons.2 (.inr (.inr (.inl rfl)))) gb hgb) (a8.symm.symm gb hgb)
 refine ⟨⟨?_,h.hR,?_,?_,?_,?_,?_,?_⟩,hO⟩
 ·rw [hO.block R h.ltR (fun h1 => h1.elim hlR (fun h1 => hgR h1.symm))]; exact h.blk
 ·intro v hv
  rcases mem_own_cons.1 hv with rfl | rfl | rfl | rfl | hv
  ·exact h.nR _ (mem_own_cons.2 (.inl rfl))
  ·exact h.nR _ (mem_own_cons.2 (.inr (.inl rfl)))
  ·exact h.nR _ (mem_own_cons.2 (.inr (.inr (.inl rfl))))
  ·exact hG.not h.ltR hlR
  ·exact h.nR _ (mem_own_cons.2 (.inr (.inr (.inr (.inr hv)))))
 ·have g1 : ∀ u ∈ own tv iv ((bv,lv) :: vs),Ap lv u → Ap lv' u:=fun u hu a => Ap.grow hG (hlt u hu) a
  exact own_pair.2 ⟨⟨a1,a2,(g1 _ (mem_own_cons.2 (.inl rfl)) a3.symm).symm,a4⟩,⟨a5,(g1 _ (mem_own_cons.2 (.inr (.inl rfl))) a6.symm).symm,a7⟩,⟨(g1 _ (mem_own_cons.2 (.inr (.inr (.inl rfl)))) a8.symm).symm,a9⟩,fun v hv => g1 _ (mem_own_cons.2 (.inr (.inr (.inr (.inr hv))))) (a10 v hv),a11⟩
 ·exact row_heap h.trow (hother _ (mem_own_cons.2 (.inl rfl)) a2 a3)
 ·refine ⟨cs',bxs,lxs ++ [.int .i64 l, .int .i64 e,sv],rfl,⟨?_,CT.keep hk _ _ _ hf.bct,?_,?_⟩,Frs.keep hk _ _ _ hfs fun v hv => hother v (mem_own_cons.2 (.inr (.inr (.inr (.inr hv))))) (a9 v hv).symm (a10 v hv).symm⟩
  ·subst hbv
   have:=(hbW1.stored (f.dn.len * 2 + 1) lv').1
   rwa [set_last2 _ _ _ _ _ hbl] at this
  ·show World.ownsRow _ base 124 3 lv' (f.cur.snoc l e s').len _
   rw [len_snoc]
   exact ownsRow_setCell_other hrow hlv' _
  ·exact CT.app _ _ _ _ _ (CT.keep hk _ _ _ hf.lct) (CT.item1 (TS.keep hs hk))
 ·exact row_heap h.irow (hother _ (mem_own_cons.2 (.inr (.inl rfl))) a5 a6)
 ·exact CT.keep hk _ _ _ h.out
theorem RS.begun {W W1 : World} {base R : Nat} {out : T} {f : Fm} {st : List Fm} {tv iv bv bv' lv : Value} {vs : List (Value × Value)} {cs' bxs lxs xs : List Value} {i gt tc : Nat}
  (h : RS W base R (out,f :: st) tv iv ((bv,lv) :: vs) (cs' ++ [.int .i64 f.line, .int .i64 0,bv, .bool f.els]) xs) (hf : FrOk W base (okb R (own tv iv ((bv,lv) :: vs))) f bv lv bxs lxs) (hfs : Frs W base (okb R (own tv iv ((bv,lv) :: vs))) cs' st vs)
  (hG : Gr W W1 bv bv') (hrow : W1.ownsRow base 148 2 bv' (f.dn.len + 1 + 1) (bxs ++ [.int .i64 f.b,lv] ++ [.int .i64 i, .slice none 0 0])) (htv : tv = .slice (some ⟨gt,0,none⟩) (st.length + 1) tc) :
  RS (W1.setCell ⟨gt,st.length * 4 + 2,none⟩ bv') base R (out,⟨f.line,f.els,f.dn.snoc f.b 0 f.cur,i,nil⟩ :: st) tv iv ((bv', .slice none 0 0) :: vs) (cs' ++ [.int .i64 f.line, .int .i64 0,bv', .bool f.els]) xs ∧ Only W (W1.setCell ⟨gt,st.length * 4 + 2,none⟩ bv') (fun k => bv.ownBlock = some k ∨ k = gt):=by
 have hO : Only W (W1.setCell ⟨gt,st.length * 4 + 2,none⟩ bv') (fun k => bv.ownBlock = some k ∨ k = gt):=(Only.of_gr hG).set ⟨gt,st.length * 4 + 2,none⟩ bv'
 have hgt : tv.ownBlock = some gt:=by rw [htv]; rfl
 obtain ⟨⟨a1,a2,a3,a4⟩,⟨a5,a6,a7⟩,⟨a8,a9⟩,a10,a11⟩:=own_pair.1 h.ap
 dsimp only at a2 a3 a5 a6 a8 a9 a10
 have hlt:=fun v hv k e => (h.lt v hv k e).2
 have hother : ∀ v,v ∈ own tv iv ((bv,lv) :: vs) → Ap v bv → Ap v tv → ∀ k,v.ownBlock = some k → (W1.setCell ⟨gt,st.length * 4 + 2,none⟩ bv').heap[k]? = W.heap[k]?:=fun v hv h1 h2 k e => by
  refine hO.block k (hlt v hv k e) ?_
  rintro (h3 | rfl)
  ·exact h1 k e h3
  ·exact h2 k e hgt
 have hS : ∀ v' ∈ own tv iv ((bv', .slice none 0 0) :: vs),∀ k,v'.ownBlock = some k → (∃ v ∈ own tv iv ((bv,lv) :: vs),v.ownBlock = some k) ∨ W.heap.size ≤ k:=fun v' hv' k e => by
  rcases mem_own_cons.1 hv' with rfl | rfl | rfl | rfl | hv'
  ·exact .inl ⟨_,mem_own_cons.2 (.inl rfl),e⟩
  ·exact .inl ⟨_,mem_own_cons.2 (.inr (.inl rfl)),e⟩
  ·rcases hG.own k e with h1 | h1
   ·exact .inl ⟨_,mem_own_cons.2 (.inr (.inr (.inl rfl))),h1⟩
   ·exact .inr h1
  ·cases e
  ·exact .inl ⟨_,mem_own_cons.2 (.inr (.inr (.inr (.inr hv')))),e⟩
 have hk:=ok_step (R:=R) (L:=own tv iv ((bv,lv) :: vs)) (L':=own tv iv ((bv', .slice none 0 0) :: vs)) hO (fun g hg => by
   rintro (h1 | rfl)
   ·exact hg.2 _ (mem_own_cons.2 (.inr (.inr (.inl rfl)))) h1
   ·exact hg.2 _ (mem_own_cons.2 (.inl rfl)) hgt) hS
 have hbR : bv.ownBlock ≠ some R:=h.nR _ (mem_own_cons.2 (.inr (.inr (.inl rfl))))
 have hgR : gt ≠ R:=fun e => h.nR _ (mem_own_cons.2 (.inl rfl)) (by rw [hgt,e])
 have htW1 : W1.ownsRow base 126 4 tv (st.length + 1) (cs' ++ [.int .i64 f.line, .int .i64 0,bv, .bool f.els]):=row_heap h.trow fun k e => hG.block (hlt _ (mem_own_cons.2 (.inl rfl)) k e) (a2 k e)
 have hcl : cs'.length = st.length * 4:=Frs.length _ _ _ hfs
 have g1 : ∀ u ∈ own tv iv ((bv,lv) :: vs),Ap bv u → Ap bv' u:=fun u hu a => Ap.grow hG (hlt u hu) a
 have hbv' : bv'.ownBlock ≠ some gt:=fun e => g1 _ (mem_own_cons.2 (.inl rfl)) a2.symm gt e hgt
 have n1 : ∀ u : Value,Ap (.slice none 0 0) u:=fun u k e => by cases e
 have hlv:=hother lv (mem_own_cons.2 (.inr (.inr (.inr (.inl rfl))))) a8.symm a3.symm
 have hlvok : ∀ k,lv.ownBlock = some k → okb R (own tv iv ((bv', .slice none 0 0) :: vs)) k:=fun k e => by
  refine ⟨fun e' => h.nR _ (mem_own_cons.2 (.inr (.inr (.inr (.inl rfl))))) (by rw [e,e']),fun v hv e' => ?_⟩
  rcases mem_own_cons.1 hv with rfl | rfl | rfl | rfl | hv
  ·exact a3 k e' e
  ·exact a6 k e' e
  ·exact g1 _ (mem_own_cons.2 (.inr (.inr (.inr (.inl rfl))))) a8 k e' e
  ·cases e'
  ·exact a10 v hv k e e'
 refine ⟨⟨?_,h.hR,?_,?_,?_,?_,?_,?_⟩,hO⟩
 ·rw [hO.block R h.ltR (fun h1 => h1.elim hbR (fun h1 => hgR h1.symm))]; exact h.blk
 ·intro v hv
  rcases mem_own_cons.1 hv with rfl | rfl | rfl | rfl | hv
  ·exact h.nR _ (mem_own_cons.2 (.inl rfl))
  ·exact h.nR _ (mem_own_cons.2 (.inr (.inl rfl)))
  ·exact hG.not h.ltR hbR
  ·simp [nil_own]
  ·exact h.nR _ (mem_own_cons.2 (.inr (.inr (.inr (.inr hv)))))
 ·exact own_pair.2 ⟨⟨a1,(g1 _ (mem_own_cons.2 (.inl rfl)) a2.symm).symm,(n1 _).symm,a4⟩,⟨(g1 _ (mem_own_cons.2 (.inr (.inl rfl))) a5.symm).symm,(n1 _).symm,a7⟩,⟨(n1 _).symm,fun v hv => g1 _ (mem_own_cons.2 (.inr (.inr (.inr (.inr hv))))) (a9 v hv)⟩,fun v _ => n1 v,a11⟩
 ·subst htv
  have:=(htW1.stored (st.length * 4 + 2) bv').1
  rwa [set_last4 _ _ _ _ _ _ _ hcl] at this
 ·refine ⟨cs',bxs ++ [.int .i64 f.b,lv],[],rfl,⟨?_,?_,World.ownsRow_nil _ _ _ _,rfl⟩,Frs.keep hk _ _ _ hfs fun v hv => hother v (mem_own_cons.2 (.inr (.inr (.inr (.inr hv))))) (a9 v hv).symm (a4 v hv).symm⟩
  ·show World.ownsRow _ base 148 2 bv' ((f.dn.snoc f.b 0 f.cur).len + 1) _
   rw [len_snoc]
   exact ownsRow_setCell_other hrow hbv' _
  ·exact CT.app _ _ _ _ _ (CT.keep hk _ _ _ hf.bct) (CT.branch1 (TS.of_row (b:=true) (row_heap hf.lrow hlv) (CT.keep hk _ _ _ hf.lct) hlvok))
 ·exact row_heap h.irow (hother _ (mem_own_cons.2 (.inr (.inl rfl))) a5 a1.symm)
 ·exact CT.keep hk _ _ _ h.out
theorem RS.els {W : World} {base R : Nat} {out : T} {f : Fm} {st : List Fm} {tv iv bv lv : Value} {vs : List (Value × Value)} {cs' bxs lxs xs : List Value} {gt tc : Nat} (b : Bool)
  (h : RS W base R (out,f :: st) tv iv ((bv,lv) :: vs) (cs' ++ [.int .i64 f.line, .int .i64 0,bv, .bool f.els]) xs) (hf : FrOk W base (okb R (own tv iv ((bv,lv) :: vs))) f bv lv bxs lxs) (hfs : Frs W base (okb R (own tv iv ((bv,lv) :: vs))) cs' st vs)
  (htv : tv = .slice (some ⟨gt,0,none⟩) (st.length + 1) tc) :
  RS (W.setCell ⟨gt,st.length * 4 + 3,none⟩ (.bool b)) base R (out,⟨f.line,b,f.dn,f.b,f.cur⟩ :: st) tv iv ((bv,lv) :: vs) (cs' ++ [.int .i64 f.line, .int .i64 0,bv, .bool b]) xs ∧ FrOk (W.setCell ⟨gt,st.length * 4 + 3,none⟩ (.bool b)) base (okb R (own tv iv ((bv,lv) :: vs))) ⟨f.line,b,f.dn,f.b,f.cur⟩ bv lv bxs lxs ∧ Frs (W.setCell ⟨gt,st.length * 4 + 3,none⟩ (.bool b)) base (okb R (own tv iv ((bv,lv) :: vs))) cs' st vs ∧ Only W (W.setCell ⟨gt,st.length * 4 + 3,none⟩ (.bool b)) (fun k => k = gt):=by
 have hO : Only W (W.setCell ⟨gt,st.length * 4 + 3,none⟩ (.bool b)) (fun k => k = gt):=⟨rfl,rfl,rfl,by simp,fun k _ hn => Below.heap_setCell _ _ _ _ hn⟩
 have hgt : tv.ownBlock = some gt:=by rw [htv]; rfl
 obtain ⟨⟨a1,a2,a3,a4⟩,⟨a5,a6,a7⟩,⟨a8,a9⟩,a10,a11⟩:=own_pair.1 h.ap
 dsimp only at a2 a3 a5 a6 a8 a9 a10
 have hlt:=fun v hv k e => (h.lt v hv k e).2
 have hother : ∀ v,v ∈ own tv iv ((bv,lv) :: vs) → Ap tv v → ∀ k,v.ownBlock = some k → (W.setCell ⟨gt,st.length * 4 + 3,none⟩ (.bool b)).heap[k]? = W.heap[k]?:=fun v hv h2 k e => by
  refine hO.block k (hlt v hv k e) ?_
  rintro rfl
  exact h2 k hgt e
 have hk:=ok_step (R:=R) (L:=own tv iv ((bv,lv) :: vs)) (L':=own tv iv ((bv,lv) :: vs)) hO (fun g hg => by
   rintro rfl
   exact hg.2 _ (mem_own_cons.2 (.inl rfl)) hgt) (fun v' hv' k e => .inl ⟨v',hv',e⟩)
 have hgR : gt ≠ R:=fun e => h.nR _ (mem_own_cons.2 (.inl rfl)) (by rw [hgt,e])
 have hcl : cs'.length = st.length * 4:=Frs.length _ _ _ hfs
 have hf':=hf.keep hk (hother _ (mem_own_cons.2 (.inr (.inr (.inl rfl)))) a2) (hother _ (mem_own_cons.2 (.inr (.inr (.inr (.inl rfl))))) a3)
 have hfs':=Frs.keep hk _ _ _ hfs fun v hv => hother v (mem_own_cons.2 (.inr (.inr (.inr (.inr hv))))) (a4 v hv)
 have hf2 : FrOk (W.setCell ⟨gt,st.length * 4 + 3,none⟩ (.bool b)) base (okb R (own tv iv ((bv,lv) :: vs))) ⟨f.line,b,f.dn,f.b,f.cur⟩ bv lv bxs lxs:=⟨hf'.brow,hf'.bct,hf'.lrow,hf'.lct⟩
 refine ⟨⟨?_,h.hR,h.nR,h.ap,?_,⟨cs',bxs,lxs,rfl,hf2,hfs'⟩,?_,CT.keep hk _ _ _ h.out⟩,hf2,hfs',hO⟩
 ·rw [hO.block R h.ltR hgR.symm]; exact h.blk
 ·have ht:=h.trow
  subst htv
  have:=(ht.stored (st.length * 4 + 3) (.bool b)).1
  rwa [set_last4' _ _ _ _ _ _ _ hcl] at this
 ·exact row_heap h.irow (hother _ (mem_own_cons.2 (.inr (.inl rfl))) a1)
theorem RS.pushed {W W1 : World} {base R : Nat} {out : T} {st : List Fm} {tv tv' iv bv : Value} {vs : List (Value × Value)} {cs xs : List Value} {i : Nat}
  (h : RS W base R (out,st) tv iv vs cs xs) (hG : Gr W W1 tv tv') (hrow : W1.ownsRow base 126 4 tv' (st.length + 1) (cs ++ [.int .i64 i, .int .i64 0,bv, .bool false]))
  (hbv : W1.ownsRow base 148 2 bv 1 [.int .i64 i, .slice none 0 0]) (hnew : ∀ k,bv.ownBlock = some k → W.heap.size ≤ k) (hne : Ap tv' bv) :
  RS (W1.setCell ⟨R,1,none⟩ tv') base R (out,⟨i,false,nil,i,nil⟩ :: st) tv' iv ((bv, .slice none 0 0) :: vs) (cs ++ [.int .i64 i, .int .i64 0,bv, .bool false]) xs ∧ Only W (W1.setCell ⟨R,1,none⟩ tv') (fun k => tv.ownBlock = some k ∨ k = R):=by
 have hO : Only W (W1.setCell ⟨R,1,none⟩ tv') (fun k => tv.ownBlock = some k ∨ k = R):=(Only.of_gr hG).set ⟨R,1,none⟩ tv'
 obtain ⟨⟨a1,a2⟩,a3,a4⟩:=own_pair0.1 h.ap
 have hlt:=fun v hv k e => (h.lt v hv k e).2
 have htR : tv.ownBlock ≠ some R:=h.nR _ (mem_own.2 (.inl rfl))
 have hRl:=h.ltR
 have hother : ∀ v,v ∈ own tv iv vs → Ap tv v → ∀ k,v.ownBlock = some k → (W1.setCell ⟨R,1,none⟩ tv').heap[k]? = W.heap[k]?:=fun v hv h2 k e => by
  refine hO.block k (hlt v hv k e) ?_
  rintro (h3 | rfl)
  ·exact h2 k h3 e
  ·exact h.nR v hv e
 have hS : ∀ v' ∈ own tv' iv ((bv, .slice none 0 0) :: vs),∀ k,v'.ownBlock = some k → (∃ v ∈ own tv iv vs,v.ownBlock = some k) ∨ W.heap.size ≤ k:=fun v' hv' k e => by
  rcases mem_own_cons.1 hv' with rfl | rfl | rfl | rfl | hv'
  ·rcases hG.own k e with h1 | h1
   ·exact .inl ⟨_,mem_own.2 (.inl rfl),h1⟩
   ·exact .inr h1
  ·exact .inl ⟨_,mem_own.2 (.inr (.inl rfl)),e⟩
  ·exact .inr (hnew k e)
  ·cases e
  ·exact .inl ⟨_,mem_own.2 (.inr (.inr hv')),e⟩
 have hk:=ok_step (R:=R) (L:=own tv iv vs) (L':=own tv' iv ((bv, .slice none 0 0) :: vs)) hO (fun g hg => by
   rintro (h1 | rfl)
   ·exact hg.2 _ (mem_own.2 (.inl rfl)) h1
   ·exact hg.1 rfl) hS
 have g1 : ∀ u ∈ own tv iv vs,Ap tv u → Ap tv' u:=fun u hu a => Ap.grow hG (hlt u hu) a
 have n1 : ∀ u : Value,Ap (.slice none 0 0) u:=fun u k e => by cases e
 have b1 : ∀ u ∈ own tv iv vs,Ap bv u:=fun u hu k e e' => by have:=hlt u hu k e'; have:=hnew k e; omega
 have htR':=hG.not hRl htR
 have hbR : bv.ownBlock ≠ some R:=fun e => by have:=hnew R e; omega
 have hb : W1.heap[R]? = some (.cells #[iv,tv] 117 (0,0)):=(hG.block hRl htR).trans h.blk
 refine ⟨⟨?_,h.hR,?_,?_,ownsRow_setCell_other hrow htR' _,⟨cs,[],[],rfl,⟨ownsRow_setCell_other hbv hbR _,rfl,World.ownsRow_nil _ _ _ _,rfl⟩,Frs.keep hk _ _ _ h.fr fun v hv => hother v (mem_own.2 (.inr (.inr hv))) (a2 v hv)⟩,row_heap h.irow (hother _ (mem_own.2 (.inr (.inl rfl))) a1),CT.keep hk _ _ _ h.out⟩,hO⟩
 ·simp [World.setCell,Array.getElem?_modify,hb]
 ·intro v hv
  rcases mem_own_cons.1 hv with rfl | rfl | rfl | rfl | hv
  ·exact htR'
  ·exact h.nR _ (mem_own.2 (.inr (.inl rfl)))
  ·exact hbR
  ·simp [nil_own]
  ·exact h.nR _ (mem_own.2 (.inr (.inr hv)))
 ·exact own_pair.2 ⟨⟨g1 _ (mem_own.2 (.inr (.inl rfl))) a1,hne,(n1 _).symm,fun v hv => g1 _ (mem_own.2 (.inr (.inr hv))) (a2 v hv)⟩,⟨(b1 _ (mem_own.2 (.inr (.inl rfl)))).symm,(n1 _).symm,a3⟩,⟨(n1 _).symm,fun v hv => b1 _ (mem_own.2 (.inr (.inr hv)))⟩,fun v _ => n1 v,a4⟩
theorem RS.popped {W : World} {base R : Nat} {out : T} {f : Fm} {st : List Fm} {tv iv bv lv : Value} {vs : List (Value × Value)} {cs' bxs lxs xs : List Value} {gt tc : Nat}
  (h : RS W base R (out,f :: st) tv iv ((bv,lv) :: vs) (cs' ++ [.int .i64 f.line, .int .i64 0,bv, .bool f.els]) xs) (hf : FrOk W base (okb R (own tv iv ((bv,lv) :: vs))) f bv lv bxs lxs) (hfs : Frs W base (okb R (own tv iv ((bv,lv) :: vs))) cs' st vs)
  (htv : tv = .slice (some ⟨gt,0,none⟩) (st.length + 1) tc) :
  RS (W.setCell ⟨R,1,none⟩ (.slice (some ⟨gt,0,none⟩) st.length tc)) base R (out,st) (.slice (some ⟨gt,0,none⟩) st.length tc) iv vs cs' xs ∧
   TS (W.setCell ⟨R,1,none⟩ (.slice (some ⟨gt,0,none⟩) st.length tc)) (okb R (own (.slice (some ⟨gt,0,none⟩) st.length tc) iv vs)) false bv (f.dn.snoc f.b 0 f.cur) ∧ Only W (W.setCell ⟨R,1,none⟩ (.slice (some ⟨gt,0,none⟩) st.length tc)) (fun k => k = R):=by
 obtain ⟨tw,htw⟩ : ∃ tw : Value,tw = .slice (some ⟨gt,0,none⟩) st.length tc:=⟨_,rfl⟩
 rw [← htw]
 have hO : Only W (W.setCell ⟨R,1,none⟩ tw) (fun k => k = R):=⟨rfl,rfl,rfl,by simp,fun k _ hn => Below.heap_setCell _ _ _ _ hn⟩
 have hgt : tv.ownBlock = some gt:=by rw [htv]; rfl
 have hgw : tw.ownBlock = some gt:=by rw [htw]; rfl
 have hown : ∀ k,tw.ownBlock = some k → tv.ownBlock = some k:=fun k e => by rw [hgt,← e,hgw]
 obtain ⟨⟨a1,a2,a3,a4⟩,⟨a5,a6,a7⟩,⟨a8,a9⟩,a10,a11⟩:=own_pair.1 h.ap
 dsimp only at a2 a3 a5 a6 a8 a9 a10
 have hlt:=fun v hv k e => (h.lt v hv k e).2
 have hother : ∀ v,v ∈ own tv iv ((bv,lv) :: vs) → ∀ k,v.ownBlock = some k → (W.setCell ⟨R,1,none⟩ tw).heap[k]? = W.heap[k]?:=fun v hv k e => by
  refine hO.block k (hlt v hv k e) ?_
  rintro rfl
  exact h.nR v hv e
 have hk:=ok_step (R:=R) (L:=own tv iv ((bv,lv) :: vs)) (L':=own tw iv vs) hO (fun g hg => by
   rintro rfl
   exact hg.1 rfl) (fun v' hv' k e => by
   rcases mem_own.1 hv' with rfl | rfl | hv'
   ·exact .inl ⟨tv,mem_own_cons.2 (.inl rfl),hown k e⟩
   ·exact .inl ⟨_,mem_own_cons.2 (.inr (.inl rfl)),e⟩
   ·exact .inl ⟨_,mem_own_cons.2 (.inr (.inr (.inr (.inr hv')))),e⟩)
 have hcl : cs'.length = st.length * 4:=Frs.length _ _ _ hfs
 have w1 : ∀ u : Value,Ap tv u → Ap tw u:=fun u a k e => a k (hown k e)
 have hbvok : ∀ k,bv.ownBlock = some k → okb R (own tw iv vs) k:=fun k e => by
  refine ⟨fun e' => h.nR _ (mem_own_cons.2 (.inr (.inr (.inl rfl)))) (by rw [e,e']),fun v hv e' => ?_⟩
  rcases mem_own.1 hv with rfl | rfl | hv
  ·exact w1 _ a2 k e' e
  ·exact a5 k e' e
  ·exact a9 v hv k e e'
 have hlvok : ∀ k,lv.ownBlock = some k → okb R (own tw iv vs) k:=fun k e => by
  refine ⟨fun e' => h.nR _ (mem_own_cons.2 (.inr (.inr (.inr (.inl rfl))))) (by rw [e,e']),fun v hv e' => ?_⟩
  rcases mem_own.1 hv with rfl | rfl | hv
  ·exact w1 _ a3 k e' e
  ·exact a6 k e' e
  ·exact a10 v hv k e e'
 have hbr:=row_heap hf.brow (hother _ (mem_own_cons.2 (.inr (.inr (.inl rfl)))))
 have hlr:=row_heap hf.lrow (hother _ (mem_own_cons.2 (.inr (.inr (.inr (.inl rfl))))))
 refine ⟨⟨?_,h.hR,?_,?_,?_,Frs.keep hk _ _ _ hfs fun v hv => hother v (mem_own_cons.2 (.inr (.inr (.inr (.inr hv))))),row_heap h.irow (hother _ (mem_own_cons.2 (.inr (.inl rfl)))),CT.keep hk _ _ _ h.out⟩,?_,hO⟩
 ·simp [World.setCell,Array.getElem?_modify,h.blk]
 ·intro v hv
  rcases mem_own.1 hv with rfl | rfl | hv
  ·exact fun e => h.nR tv (mem_own_cons.2 (.inl rfl)) (hown _ e)
  ·exact h.nR _ (mem_own_cons.2 (.inr (.inl rfl)))
  ·exact h.nR _ (mem_own_cons.2 (.inr (.inr (.inr (.inr hv)))))
 ·exact own_pair0.2 ⟨⟨w1 _ a1,fun v hv => w1 _ (a4 v hv)⟩,a7,a11⟩
 ·have ht:=row_heap h.trow (hother _ (mem_own_cons.2 (.inl rfl)))
  have hx:=ownsRow_take (m:=st.length) (by rw [htv] at ht; exact ht) (by simp)
  rw [← htw,List.take_left' hcl] at hx
  exact hx
 ·refine TS.of_row (b:=false) (e:=148) (base:=base) (xs:=bxs ++ [.int .i64 f.b,lv]) (by rw [len_snoc]; exact hbr) (CT.app _ _ _ _ _ (CT.keep hk _ _ _ hf.bct) (CT.branch1 (TS.of_row (b:=true) hlr (CT.keep hk _ _ _ hf.lct) hlvok))) hbvok
end Cnd
namespace Cnd
open Go.RowKit
open Ct Ct.T
theorem top_nil (R c : Nat) (a : Option Addr) (w : World) (hc : w.cell? ⟨R,1,none⟩ = some (.slice a 0 c)) : Calls Tryz.prog 50 #[.pointer (some ⟨R,1,none⟩)] w fun e w' => e = .returned (.pointer none) ∧ w' = w:=by
 go_enter Tryz.func50,Tryz.ntmps50
 go_wp2_with fail
 go_ret
 exact ⟨rfl,rfl⟩
theorem top_cons (R g m c : Nat) (w : World) (hc : w.cell? ⟨R,1,none⟩ = some (.slice (some ⟨g,0,none⟩) (m + 1) c)) (hm : m ≤ 1000000) : Calls Tryz.prog 50 #[.pointer (some ⟨R,1,none⟩)] w fun e w' => e = .returned (.pointer (some ⟨g,m * 4,none⟩)) ∧ ∃ q,w' = w.drewN q:=by
 have z1 : ((m : Int) + 1 == 0) = false:=by simp; omega
 have z2 : (0 : Int) ≤ m:=by omega
 have z3 : (m : Int) < m + 1:=by omega
 have z4 : IntKind.i64.wrap (m : Int) = m:=IntWalk.i64_in _ (by omega)
 have z5 : IntKind.i64.wrap ((m : Int) + 1 - 1) = m:=by rw [IntWalk.i64_in _ (by omega)]; omega
 go_enter Tryz.func50,Tryz.ntmps50
 go_wp2_with fail
 go_quiet (fail)
 go_wp2_with fail
 go_ret
 exact ⟨rfl,_,rfl⟩
def BeginPost (w : World) (gc oc i n base : Nat) (bv : Value) (bxs : List Value) (e : Ending) (w' : World) : Prop :=
 e = .returned (.tuple #[]) ∧ ∃ bv' W1,Gr w W1 bv bv' ∧ W1.ownsRow base 148 2 bv' (n + 1) (bxs ++ [.int .i64 i, .slice none 0 0]) ∧ w' = W1.setCell ⟨gc,oc + 2,none⟩ bv'
theorem begin_any (gc oc i n base : Nat) (bv : Value) (bxs : List Value) (w : World) (hc : w.cell? ⟨gc,oc + 2,none⟩ = some bv) (hfz : w.frozen? ⟨gc,oc + 2,none⟩ = false) (hrow : w.ownsRow base 148 2 bv n bxs) (hne : bv.ownBlock ≠ some gc) (hb : base ≤ w.heap.size) (hn : n ≤ 1000000) :
  Calls Tryz.prog 87 #[.pointer (some ⟨gc,oc,none⟩), .int .i64 i] w (BeginPost w gc oc i n base bv bxs):=by
 obtain ⟨i0,hi,hz0,hz1,hz2⟩:=info_parts infoBr
 have hlt:=lt_of_cell hc
 go_enter Tryz.func87,Tryz.ntmps87
 go_wp2_with (at_builtin; refine wpList_append_lies _ rfl _ _ 122 rfl base 148 i0 (.agg #[.int .i64 0, .slice none 0 0]) 2 32 Tryz.underlying122 hi hz0 hz1 hz2 rfl (by decide) bv n bxs rfl (hrow.alloc _) ⟨w.heap.size,0,none⟩ 1 1 [.int .i64 i, .slice none 0 0] rfl rfl (news2 _ _ _ _) (by simp [Value.oneCell']) (by decide) (by unfold maxLen; omega) (by omega) (by simp; omega) (w.heap.size + 1) (by simp) ?_; intro g' cap' W1 hown' hgrow hat _; have hG : Gr w W1 bv (.slice (some ⟨g',0,none⟩) (n + 1) cap'):=(Gr.alloc _ _ _).trans (Gr.lies hgrow (by simpa using hat)); have hc1:=(World.cell?_of_block (w:=w) (a:=⟨gc,oc + 2,none⟩) (hG.block hlt hne)).trans hc; have hf1:=(World.frozen?_of_block (w:=w) (a:=⟨gc,oc + 2,none⟩) (hG.block hlt hne)).trans hfz)
 exact bodyPost_ret (v:=.tuple #[]) (by simp [results,Tryz.results87,go_sem]) rfl ⟨rfl,_,W1,hG,hown',rfl⟩
def PushPost (w : World) (R m base : Nat) (tv : Value) (cs new : List Value) (e : Ending) (w' : World) : Prop :=
 e = .returned (.tuple #[]) ∧ ∃ tv' W1,Gr w W1 tv tv' ∧ W1.ownsRow base 126 4 tv' (m + 1) (cs ++ new) ∧ ∃ q,w' = (W1.setCell ⟨R,1,none⟩ tv').drewN q
theorem push_any (R m base l bn bc : Nat) (ba : Option Addr) (els : Bool) (tv : Value) (cs : List Value) (w : World) (hc : w.cell? ⟨R,1,none⟩ = some tv) (hfz : w.frozen? ⟨R,1,none⟩ = false) (hrow : w.ownsRow base 126 4 tv m cs) (hne : tv.ownBlock ≠ some R) (hb : base ≤ w.heap.size) (hn : m ≤ 1000000) :
  Calls Tryz.prog 88 #[.pointer (some ⟨R,1,none⟩), .agg #[.int .i64 l, .int .i64 0, .slice ba bn bc, .bool els]] w (PushPost w R m base tv cs [.int .i64 l, .int .i64 0, .slice ba bn bc, .bool els]):=by
 obtain ⟨i0,hi,hz0,hz1,hz2⟩:=info_parts infoCond
 have hlt:=lt_of_cell hc
 have HI:=Lib.hid hi
 have HZ0:=Lib.hid hz0
 have HZ1:=Lib.hid hz1
 have HZ2:=Lib.hid hz2
 clear hi hz0 hz1 hz2
 go_enter Tryz.func88,Tryz.ntmps88
 go_wp2_with fail
 have hG0:=Gr.alloc w tv (.cells #[.int .i64 l, .int .i64 0, .slice ba bn bc, .bool els] 126)
 have hbox : (w.alloc (.cells #[.int .i64 l, .int .i64 0, .slice ba bn bc, .bool els] 126)).heap[w.heap.size]? = some (.cells #[.int .i64 l, .int .i64 0, .slice ba bn bc, .bool els] 126 (0,0)):=heap_alloc_new _ _
 have hrW:=hrow.alloc (.cells #[.int .i64 l, .int .i64 0, .slice ba bn bc, .bool els] 126)
 generalize (w.alloc (.cells #[.int .i64 l, .int .i64 0, .slice ba bn bc, .bool els] 126)) = W at hG0 hbox hrW ⊢
 have hblk:=hG0.block hlt hne
 have c1:=(World.cell?_of_block (w:=w) (a:=⟨R,1,none⟩) hblk).trans hc
 have fz1:=(World.frozen?_of_block (w:=w) (a:=⟨R,1,none⟩) hblk).trans hfz
 have b0 : W.cell? ⟨w.heap.size,0,none⟩ = some (.int .i64 l):=by simp [World.cell?,hbox]
 have b1 : W.cell? ⟨w.heap.size,1,none⟩ = some (.int .i64 0):=by simp [World.cell?,hbox]
 have b2 : W.cell? ⟨w.heap.size,2,none⟩ = some (.slice ba bn bc):=by simp [World.cell?,hbox]
 have b3 : W.cell? ⟨w.heap.size,3,none⟩ = some (.bool els):=by simp [World.cell?,hbox]
 have hRl:=lt_of_cell c1
 have hbl:=lt_of_block hbox
 have hsz0:=hG0.g.size
 have HG0:=Lib.hid hG0
 have HRW:=Lib.hid hrW
 have HC:=Lib.hid hc
 have HFZ:=Lib.hid hfz
 have HNE:=Lib.hid hne
 have h1c : ∀ u ∈ [Value.int .i64 l, .int .i64 0, .slice ba bn bc, .bool els],u.oneCell' = true:=by simp [Value.oneCell']
 have H1C:=Lib.hid h1c
 have hbase0 : base ≤ ((W.alloc (.cells #[.int .i64 l, .int .i64 0, .slice ba bn bc, .bool els] 126)).drew).heap.size:=by simp; omega
 clear h1c hG0 hrW hc hfz hne hblk hbox
 go_region_law ((refine step_append_lies _ rfl (.tmp 8) (.tmp 10) 113 rfl base 126 i0 _ 4 48 Tryz.underlying113 HI.out HZ0.out HZ1.out HZ2.out rfl (by omega) tv m cs rfl ?_ ⟨W.heap.size,0,none⟩ 1 1 [.int .i64 l, .int .i64 0, .slice ba bn bc, .bool els] rfl rfl ?_ H1C.out (by omega) (by unfold maxLen; omega) (by omega) ?_ (W.heap.size + 1) ?_ ?_; exact ((HRW.out.alloc _).drew); exact news4 _ _ _ _ _ _; exact hbase0; simp; intro g cap w1 hown hgrow hat hlt1; have hG1:=HG0.out.trans (((Gr.alloc _ _ _).trans (Gr.drew _ _)).trans (Gr.lies (n:=m + 1) (cap:=cap) hgrow (by simpa using hat))); have hc1w:=(World.cell?_of_block (w:=w) (a:=⟨R,1,none⟩) (hG1.block hlt HNE.out)).trans HC.out; have hfzw:=(World.frozen?_of_block (w:=w) (a:=⟨R,1,none⟩) (hG1.block hlt HNE.out)).trans HFZ.out))
 all_goals
  exact bodyPost_ret (v:=.tuple #[]) (by simp [results,Tryz.results88,go_sem]) rfl ⟨rfl,_,w1,hG1,hown,0,rfl⟩
theorem pop_any (R g m c l bn bc : Nat) (ba : Option Addr) (els : Bool) (w : World) (hc : w.cell? ⟨R,1,none⟩ = some (.slice (some ⟨g,0,none⟩) (m + 1) c)) (hfz : w.frozen? ⟨R,1,none⟩ = false) (hm : m ≤ 1000000) (hmc : m + 1 ≤ c)
  (c0 : w.cell? ⟨g,m * 4,none⟩ = some (.int .i64 l)) (c1 : w.cell? ⟨g,m * 4 + 1,none⟩ = some (.int .i64 0)) (c2 : w.cell? ⟨g,m * 4 + 2,none⟩ = some (.slice ba bn bc)) (c3 : w.cell? ⟨g,m * 4 + 3,none⟩ = some (.bool els)) :
  Calls Tryz.prog 89 #[.pointer (some ⟨R,1,none⟩)] w fun e w' => e = .returned (.agg #[.int .i64 l, .int .i64 0, .slice ba bn bc, .bool els]) ∧ ∃ o o',w' = ((w.setCell ⟨R,1,none⟩ (.slice (some ⟨g,0,none⟩) m c)).alloc o).alloc o':=by
 have z2 : (0 : Int) ≤ m:=by omega
 have z3 : (m : Int) < m + 1:=by omega
 have z4 : IntKind.i64.wrap (m : Int) = m:=IntWalk.i64_in _ (by omega)
 have z5 : IntKind.i64.wrap ((m : Int) + 1 - 1) = m:=by rw [IntWalk.i64_in _ (by omega)]; omega
 have z6 : (m : Int) ≤ c:=by omega
 have hRl:=lt_of_cell hc
 have hgl:=lt_of_cell c0
 go_enter Tryz.func89,Tryz.ntmps89
 go_wp2_with fail
 exact bodyPost_ret (v:=.agg #[.int .i64 l, .int .i64 0, .slice ba bn bc, .bool els]) (by simp [results,Tryz.results89,go_sem]) rfl ⟨rfl,_,_,rfl⟩
end Cnd
namespace Cnd
open Go.RowKit
open Ct Ct.T
theorem Gr.drewN (w : World) (u : Value) (q : Nat) : Gr w (w.drewN q) u u:=⟨⟨rfl,rfl,rfl,Nat.le_refl _,fun _ _ _ => rfl⟩,fun _ h => .inl h⟩
def AddPost (w : World) (a : Addr) (n base : Nat) (iv : Value) (xs new : List Value) (e : Ending) (w' : World) : Prop :=
 e = .returned (.tuple #[]) ∧ ∃ iv' W1,Gr w W1 iv iv' ∧ W1.ownsRow base 124 3 iv' (n + 1) (xs ++ new) ∧ w' = W1.setCell a iv'
theorem add_nil (R n base l e sn sc : Nat) (sa : Option Addr) (iv : Value) (xs : List Value) (w : World) (c : Nat) (a : Option Addr) (ht : w.cell? ⟨R,1,none⟩ = some (.slice a 0 c)) (hc : w.cell? ⟨R,0,none⟩ = some iv) (hfz : w.frozen? ⟨R,0,none⟩ = false) (hne : iv.ownBlock ≠ some R) (hrow : w.ownsRow base 124 3 iv n xs) (hb : base ≤ w.heap.size) (hn : n ≤ 1000000) :
  Calls Tryz.prog 90 #[.pointer (some ⟨R,0,none⟩), .agg #[.int .i64 l, .int .i64 e, .slice sa sn sc]] w (AddPost w ⟨R,0,none⟩ n base iv xs [.int .i64 l, .int .i64 e, .slice sa sn sc]):=by
 obtain ⟨i0,hi,hz0,hz1,hz2⟩:=info_parts infoItem
 have hlt:=lt_of_cell hc
 have HI:=Lib.hid hi
 have HZ0:=Lib.hid hz0
 have HZ1:=Lib.hid hz1
 have HZ2:=Lib.hid hz2
 clear hi hz0 hz1 hz2
 go_enter Tryz.func90,Tryz.ntmps90
 go_wp2_with fail
 have hG0:=Gr.alloc w iv (.cells #[.int .i64 l, .int .i64 e, .slice sa sn sc] 124)
 have hbox : (w.alloc (.cells #[.int .i64 l, .int .i64 e, .slice sa sn sc] 124)).heap[w.heap.size]? = some (.cells #[.int .i64 l, .int .i64 e, .slice sa sn sc] 124 (0,0)):=heap_alloc_new _ _
 have hrW:=hrow.alloc (.cells #[.int .i64 l, .int .i64 e, .slice sa sn sc] 124)
 have hcT:=Lib.cell?_alloc_some (.cells #[.int .i64 l, .int .i64 e, .slice sa sn sc] 124) ht
 generalize (w.alloc (.cells #[.int .i64 l, .int .i64 e, .slice sa sn sc] 124)) = W at hG0 hbox hrW hcT ⊢
 refine (top_nil R c a W hcT).mono ?_
 rintro e1 W2 ⟨rfl,hW2⟩
 rw [hW2]
 clear hW2 W2
 go_wp2_with fail
 have hblk:=hG0.block hlt hne
 have c1:=(World.cell?_of_block (w:=w) (a:=⟨R,0,none⟩) hblk).trans hc
 have fz1:=(World.frozen?_of_block (w:=w) (a:=⟨R,0,none⟩) hblk).trans hfz
 have b0 : W.cell? ⟨w.heap.size,0,none⟩ = some (.int .i64 l):=by simp [World.cell?,hbox]
 have b1 : W.cell? ⟨w.heap.size,1,none⟩ = some (.int .i64 e):=by simp [World.cell?,hbox]
 have b2 : W.cell? ⟨w.heap.size,2,none⟩ = some (.slice sa sn sc):=by simp [World.cell?,hbox]
 have hRl:=lt_of_cell c1
 have hbl:=lt_of_block hbox
 have hsz0:=hG0.g.size
 have HG0:=Lib.hid hG0
 have HRW:=Lib.hid hrW
 have HC:=Lib.hid hc
 have HFZ:=Lib.hid hfz
 have HNE:=Lib.hid hne
 have h1c : ∀ u ∈ [Value.int .i64 l, .int .i64 e, .slice sa sn sc],u.oneCell' = true:=by simp [Value.oneCell']
 have H1C:=Lib.hid h1c
 have hbase0 : base ≤ ((W.alloc (.cells #[.int .i64 l, .int .i64 e, .slice sa sn sc] 124)).drew).heap.size:=by simp; omega
 clear h1c hG0 hrW hc hfz hne hblk hbox
 go_region_law ((refine step_append_lies _ rfl (.tmp 17) (.tmp 19) 72 rfl base 124 i0 _ 3 40 Tryz.underlying72 HI.out HZ0.out HZ1.out HZ2.out rfl (by omega) iv n xs rfl ?_ ⟨W.heap.size,0,none⟩ 1 1 [.int .i64 l, .int .i64 e, .slice sa sn sc] rfl rfl ?_ H1C.out (by omega) (by unfold maxLen; omega) (by omega) ?_ (W.heap.size + 1) ?_ ?_; exact ((HRW.out.alloc _).drew); exact news3 _ _ _ _ _; exact hbase0; simp; intro g cap w1 hown hgrow hat hlt1; have hG1:=HG0.out.trans (((Gr.alloc _ _ _).trans (Gr.drew _ _)).trans (Gr.lies (n:=n + 1) (cap:=cap) hgrow (by simpa using hat))); have hc1w:=(World.cell?_of_block (w:=w) (a:=⟨R,0,none⟩) (hG1.block hlt HNE.out)).trans HC.out; have hfzw:=(World.frozen?_of_block (w:=w) (a:=⟨R,0,none⟩) (hG1.block hlt HNE.out)).trans HFZ.out))
 all_goals
  go_wp2_with fail
  exact bodyPost_ret (v:=.tuple #[]) (by simp [results,Tryz.results90,go_sem]) rfl ⟨rfl,_,w1,hG1,hown,rfl⟩
theorem add_top (R n base l e sn sc : Nat) (sa : Option Addr) (iv : Value) (xs : List Value) (w : World) (g m c gb d bc : Nat) (ht : w.cell? ⟨R,1,none⟩ = some (.slice (some ⟨g,0,none⟩) (m + 1) c)) (hm : m ≤ 1000000) (hbv : w.cell? ⟨g,m * 4 + 2,none⟩ = some (.slice (some ⟨gb,0,none⟩) (d + 1) bc)) (hd : d ≤ 1000000) (hc : w.cell? ⟨gb,d * 2 + 1,none⟩ = some iv) (hfz : w.frozen? ⟨gb,d * 2 + 1,none⟩ = false) (hne : iv.ownBlock ≠ some gb) (hrow : w.ownsRow base 124 3 iv n xs) (hb : base ≤ w.heap.size) (hn : n ≤ 1000000) :
  Calls Tryz.prog 90 #[.pointer (some ⟨R,0,none⟩), .agg #[.int .i64 l, .int .i64 e, .slice sa sn sc]] w (AddPost w ⟨gb,d * 2 + 1,none⟩ n base iv xs [.int .i64 l, .int .i64 e, .slice sa sn sc]):=by
 obtain ⟨i0,hi,hz0,hz1,hz2⟩:=info_parts infoItem
 have hlt:=lt_of_cell hc
 have HI:=Lib.hid hi
 have HZ0:=Lib.hid hz0
 have HZ1:=Lib.hid hz1
 have HZ2:=Lib.hid hz2
 clear hi hz0 hz1 hz2
 go_enter Tryz.func90,Tryz.ntmps90
 go_wp2_with fail
 have hG00:=Gr.alloc w iv (.cells #[.int .i64 l, .int .i64 e, .slice sa sn sc] 124)
 have hcT:=Lib.cell?_alloc_some (.cells #[.int .i64 l, .int .i64 e, .slice sa sn sc] 124) ht
 refine (top_cons R g m c _ hcT hm).mono ?_
 rintro e1 w' ⟨rfl,q,rfl⟩
 have hG0:=hG00.trans (Gr.drewN _ iv q)
 have hbox : ((w.alloc (.cells #[.int .i64 l, .int .i64 e, .slice sa sn sc] 124)).drewN q).heap[w.heap.size]? = some (.cells #[.int .i64 l, .int .i64 e, .slice sa sn sc] 124 (0,0)):=heap_alloc_new w _
 have hrW : ((w.alloc (.cells #[.int .i64 l, .int .i64 e, .slice sa sn sc] 124)).drewN q).ownsRow base 124 3 iv n xs:=hrow.alloc (.cells #[.int .i64 l, .int .i64 e, .slice sa sn sc] 124)
 have hcB : ((w.alloc (.cells #[.int .i64 l, .int .i64 e, .slice sa sn sc] 124)).drewN q).cell? ⟨g,m * 4 + 2,none⟩ = some (.slice (some ⟨gb,0,none⟩) (d + 1) bc):=Lib.cell?_alloc_some (.cells #[.int .i64 l, .int .i64 e, .slice sa sn sc] 124) hbv
 generalize ((w.alloc (.cells #[.int .i64 l, .int .i64 e, .slice sa sn sc] 124)).drewN q) = W at hG0 hbox hrW hcB ⊢
 clear hcT hG00
 have z2 : (0 : Int) ≤ d:=by omega
 have z3 : (d : Int) < d + 1:=by omega
 have z4 : IntKind.i64.wrap (d : Int) = d:=IntWalk.i64_in _ (by omega)
 have z5 : IntKind.i64.wrap ((d : Int) + 1 - 1) = d:=by rw [IntWalk.i64_in _ (by omega)]; omega
 go_wp2_with fail
 have hblk:=hG0.block hlt hne
 have c1:=(World.cell?_of_block (w:=w) (a:=⟨gb,d * 2 + 1,none⟩) hblk).trans hc
 have fz1:=(World.frozen?_of_block (w:=w) (a:=⟨gb,d * 2 + 1,none⟩) hblk).trans hfz
 have b0 : W.cell? ⟨w.heap.size,0,none⟩ = some (.int .i64 l):=by simp [World.cell?,hbox]
 have b1 : W.cell? ⟨w.heap.size,1,none⟩ = some (.int .i64 e):=by simp [World.cell?,hbox]
 have b2 : W.cell? ⟨w.heap.size,2,none⟩ = some (.slice sa sn sc):=by simp [World.cell?,hbox]
 have hRl:=lt_of_cell c1
 have hbl:=lt_of_block hbox
 have hsz0:=hG0.g.size
 have HG0:=Lib.hid hG0
 have HRW:=Lib.hid hrW
 have HC:=Lib.hid hc
 have HFZ:=Lib.hid hfz
 have HNE:=Lib.hid hne
 have h1c : ∀ u ∈ [Value.int .i64 l, .int .i64 e, .slice sa sn sc],u.oneCell' = true:=by simp [Value.oneCell']
 have H1C:=Lib.hid h1c
 have hbase0 : base ≤ ((W.alloc (.cells #[.int .i64 l, .int .i64 e, .slice sa sn sc] 124)).drew).heap.size:=by simp; omega
 clear h1c hG0 hrW hc hfz hne hblk hbox
 go_region_law ((refine step_append_lies _ rfl (.tmp 37) (.tmp 39) 72 rfl base 124 i0 _ 3 40 Tryz.underlying72 HI.out HZ0.out HZ1.out HZ2.out rfl (by omega) iv n xs rfl ?_ ⟨W.heap.size,0,none⟩ 1 1 [.int .i64 l, .int .i64 e, .slice sa sn sc] rfl rfl ?_ H1C.out (by omega) (by unfold maxLen; omega) (by omega) ?_ (W.heap.size + 1) ?_ ?_; exact ((HRW.out.alloc _).drew); exact news3 _ _ _ _ _; exact hbase0; simp; intro g5 cap w1 hown hgrow hat hlt1; have hG1:=HG0.out.trans (((Gr.alloc _ _ _).trans (Gr.drew _ _)).trans (Gr.lies (n:=n + 1) (cap:=cap) hgrow (by simpa using hat))); have hc1w:=(World.cell?_of_block (w:=w) (a:=⟨gb,d * 2 + 1,none⟩) (hG1.block hlt HNE.out)).trans HC.out; have hfzw:=(World.frozen?_of_block (w:=w) (a:=⟨gb,d * 2 + 1,none⟩) (hG1.block hlt HNE.out)).trans HFZ.out))
 all_goals
  exact bodyPost_ret (v:=.tuple #[]) (by simp [results,Tryz.results90,go_sem]) rfl ⟨rfl,_,w1,hG1,hown,rfl⟩
end Cnd
namespace Cnd
open Go.RowKit
open Ct Ct.T
theorem RS.c0 {W : World} {base R : Nat} {s : S} {tv iv : Value} {vs : List (Value × Value)} {cs xs : List Value} (h : RS W base R s tv iv vs cs xs) : W.cell? ⟨R,0,none⟩ = some iv:=by simp [World.cell?,h.blk]
theorem RS.c1 {W : World} {base R : Nat} {s : S} {tv iv : Value} {vs : List (Value × Value)} {cs xs : List Value} (h : RS W base R s tv iv vs cs xs) : W.cell? ⟨R,1,none⟩ = some tv:=by simp [World.cell?,h.blk]
theorem RS.fz {W : World} {base R : Nat} {s : S} {tv iv : Value} {vs : List (Value × Value)} {cs xs : List Value} (h : RS W base R s tv iv vs cs xs) (j : Nat) : W.frozen? ⟨R,j,none⟩ = false:=frozen_of_row W R j _ _ h.blk
theorem row_form0 {W : World} {base e sz : Nat} {v : Value} {xs : List Value} (h : W.ownsRow base e sz v 0 xs) : ∃ a c,v = .slice a 0 c:=by
 rcases h.2 with ⟨h',_⟩ | ⟨g,cap,cur,h',_⟩
 ·exact ⟨_,_,h'⟩
 ·exact ⟨_,_,h'⟩
theorem row_form1 {W : World} {base e sz n : Nat} {v : Value} {xs : List Value} (h : W.ownsRow base e sz v (n + 1) xs) : ∃ g c,v = .slice (some ⟨g,0,none⟩) (n + 1) c ∧ n + 1 ≤ c ∧ (∀ j u,xs[j]? = some u → W.cell? ⟨g,j,none⟩ = some u) ∧ ∀ j,W.frozen? ⟨g,j,none⟩ = false:=by
 rcases id h.2 with ⟨_,h'⟩ | ⟨g,cap,cur,rfl,h1,h2,h3,h4⟩
 ·cases h'
 ·refine ⟨g,cap,rfl,h3,fun j u hj => ?_,h.frozenAt⟩
  have:=h.cells (g:=g) rfl j u hj
  rwa [add_none,Nat.zero_add] at this
theorem RS.vnil {W : World} {base R : Nat} {out : T} {tv iv : Value} {vs : List (Value × Value)} {cs xs : List Value} (h : RS W base R (out,[]) tv iv vs cs xs) : vs = []:=by
 have:=h.fr
 cases vs with
 | nil => rfl
 | cons p vs => exact this.elim
theorem RS.top {W : World} {base R : Nat} {out : T} {f : Fm} {st : List Fm} {tv iv : Value} {vs : List (Value × Value)} {cs xs : List Value} (h : RS W base R (out,f :: st) tv iv vs cs xs) :
  ∃ bv lv vs' cs' bxs lxs gt tc gb bc,vs = (bv,lv) :: vs' ∧ cs = cs' ++ [.int .i64 f.line, .int .i64 0,bv, .bool f.els] ∧ FrOk W base (okb R (own tv iv ((bv,lv) :: vs'))) f bv lv bxs lxs ∧ Frs W base (okb R (own tv iv ((bv,lv) :: vs'))) cs' st vs' ∧
   tv = .slice (some ⟨gt,0,none⟩) (st.length + 1) tc ∧ st.length + 1 ≤ tc ∧ bv = .slice (some ⟨gb,0,none⟩) (f.dn.len + 1) bc ∧
   W.cell? ⟨gt,st.length * 4,none⟩ = some (.int .i64 f.line) ∧ W.cell? ⟨gt,st.length * 4 + 1,none⟩ = some (.int .i64 0) ∧ W.cell? ⟨gt,st.length * 4 + 2,none⟩ = some bv ∧ W.cell? ⟨gt,st.length * 4 + 3,none⟩ = some (.bool f.els) ∧ (∀ j,W.frozen? ⟨gt,j,none⟩ = false) ∧
   W.cell? ⟨gb,f.dn.len * 2 + 1,none⟩ = some lv ∧ (∀ j,W.frozen? ⟨gb,j,none⟩ = false) ∧ bv.ownBlock ≠ some gt ∧ lv.ownBlock ≠ some gb:=by
 have hf:=h.fr
 cases vs with
 | nil => exact hf.elim
 | cons p vs =>
  obtain ⟨bv,lv⟩:=p
  obtain ⟨cs',bxs,lxs,rfl,h1,h2⟩:=hf
  obtain ⟨gt,tc,htv,ht1,ht2,ht3⟩:=row_form1 h.trow
  obtain ⟨gb,bc,hbv,hb1,hb2,hb3⟩:=row_form1 h1.brow
  have hcl : cs'.length = st.length * 4:=Frs.length _ _ _ h2
  have hbl : bxs.length = f.dn.len * 2:=CT.length _ _ _ h1.bct
  obtain ⟨⟨a1,a2,a3,a4⟩,⟨a5,a6,a7⟩,⟨a8,a9⟩,a10,a11⟩:=own_pair.1 h.ap
  refine ⟨bv,lv,vs,cs',bxs,lxs,gt,tc,gb,bc,rfl,rfl,h1,h2,htv,ht1,hbv,ht2 _ _ ?_,ht2 _ _ ?_,ht2 _ _ ?_,ht2 _ _ ?_,ht3,hb2 _ _ ?_,hb3,?_,?_⟩
  ·rw [List.getElem?_append_right (by omega),hcl,Nat.sub_self]; rfl
  ·rw [List.getElem?_append_right (by omega),hcl,show st.length * 4 + 1 - st.length * 4 = 1 by omega]; rfl
  ·rw [List.getElem?_append_right (by omega),hcl,show st.length * 4 + 2 - st.length * 4 = 2 by omega]; rfl
  ·rw [List.getElem?_append_right (by omega),hcl,show st.length * 4 + 3 - st.length * 4 = 3 by omega]; rfl
  ·rw [List.getElem?_append_right (by omega),hbl,show f.dn.len * 2 + 1 - f.dn.len * 2 = 1 by omega]; rfl
  ·exact a2 gt (by rw [htv]; rfl)
  ·exact a8 gb (by rw [hbv]; rfl)
def Sm (m : Nat) (s : S) : Prop:=s.1.len ≤ m ∧ s.2.length ≤ m ∧ ∀ f ∈ s.2,f.dn.len ≤ m ∧ f.cur.len ≤ m
theorem Sm.mono {m m' : Nat} {s : S} (h : Sm m s) (hm : m ≤ m') : Sm m' s:=⟨by have:=h.1; omega,by have:=h.2.1; omega,fun f hf => by have:=h.2.2 f hf; omega⟩
theorem Sm.add {m l e : Nat} {x : T} {s : S} (h : Sm m s) : Sm (m + 1) (Ct.add l e x s):=by
 obtain ⟨out,st⟩:=s
 obtain ⟨h1,h2,h3⟩:=h
 dsimp only at h1 h2 h3
 cases st with
 | nil => exact ⟨by show (out.snoc l e x).len ≤ _; rw [len_snoc]; omega,by simp [Ct.add],by simp [Ct.add]⟩
 | cons f st =>
  refine ⟨by show out.len ≤ _; omega,by simp only [Ct.add,List.length_cons] at h2 ⊢; omega,fun f' hf' => ?_⟩
  simp only [Ct.add,List.mem_cons] at hf'
  rcases hf' with rfl | hf'
  ·have:=h3 f (by simp); dsimp only; rw [len_snoc]; omega
  ·have:=h3 f' (by simp [hf']); omega
theorem Sm.take {m i : Nat} {k : Int} {s : S} (h : Sm m s) : Sm (m + 1) (Ct.take i k s):=by
 obtain ⟨out,st⟩:=s
 have h0:=h
 obtain ⟨h1,h2,h3⟩:=h
 dsimp only at h1 h2 h3
 unfold Ct.take
 split
 ·refine ⟨by dsimp only; omega,by simp only [List.length_cons]; omega,fun f' hf' => ?_⟩
  simp only [List.mem_cons] at hf'
  rcases hf' with rfl | hf'
  ·simp [T.len]
  ·have:=h3 f' hf'; omega
 ·split
  ·cases st with
   | nil => exact h0.mono (by omega)
   | cons f st =>
    refine ⟨by dsimp only; omega,by simp only [List.length_cons] at h2 ⊢; omega,fun f' hf' => ?_⟩
    simp only [List.mem_cons] at hf'
    rcases hf' with rfl | hf'
    ·have:=h3 f (by simp); dsimp only; rw [len_snoc]; simp only [T.len]; omega
    ·have:=h3 f' (by simp [hf']); omega
  ·split
   ·cases st with
    | nil => exact h0.mono (by omega)
    | cons f st => exact Sm.add ⟨h1,by simp only [List.length_cons] at h2; dsimp only; omega,fun f' hf' => h3 f' (by simp [hf'])⟩
   ·exact Sm.add h0
def RSx (W : World) (base R : Nat) (s : S) : Prop:=∃ tv iv vs cs xs,RS W base R s tv iv vs cs xs
def StepPost (W : World) (base R : Nat) (s : S) (e : Ending) (w' : World) : Prop:=e = .returned (.tuple #[]) ∧ RSx w' base R s ∧ Below base W w'
theorem add_any {W : World} {base R : Nat} {s : S} {tv iv sv : Value} {vs : List (Value × Value)} {cs xs : List Value} {l e m : Nat} {s' : T} (h : RS W base R s tv iv vs cs xs) (hs : TS W (okb R (own tv iv vs)) false sv s') (hm : Sm m s) (hm' : m ≤ 1000000) (hb : base ≤ W.heap.size) :
  Calls Tryz.prog 90 #[.pointer (some ⟨R,0,none⟩), .agg #[.int .i64 l, .int .i64 e,sv]] W (StepPost W base R (Ct.add l e s' s)):=by
 obtain ⟨sa,sc,hsv, -⟩:=hs.form
 obtain ⟨out,st⟩:=s
 have hm1:=hm.1
 have hm2:=hm.2.1
 dsimp only at hm1 hm2
 cases st with
 | nil =>
  obtain rfl:=h.vnil
  obtain ⟨a,c,rfl⟩:=row_form0 h.trow
  subst hsv
  refine (add_nil R out.len base l e _ sc sa iv xs W c a h.c1 h.c0 (h.fz 0) (h.nR _ (by simp [own])) h.irow hb (by omega)).mono ?_
  rintro e1 w' ⟨rfl,iv',W1,hG,hrow,rfl⟩
  obtain ⟨h1,h2⟩:=h.addNil hG hrow hs
  refine ⟨rfl,⟨_,_,_,_,_,h1⟩,h2.below hb ?_⟩
  rintro k (hk | rfl)
  ·exact (h.irow.lt k hk).1
  ·exact h.hR
 | cons f st =>
  obtain ⟨bv,lv,vs',cs',bxs,lxs,gt,tc,gb,bc,rfl,rfl,hf,hfs,htv,ht1,hbv,c0,c1,c2,c3,c4,c5,c6,n1,n2⟩:=h.top
  have hm3:=hm.2.2 f (by simp)
  simp only [List.length_cons] at hm2
  have hc1:=h.c1
  rw [htv] at hc1
  have hc2:=c2
  rw [hbv] at hc2
  have hcall:=add_top R f.cur.len base l e s'.len sc sa lv lxs W gt st.length tc gb f.dn.len bc hc1 (by omega) hc2 (by omega) c5 (c6 _) n2 hf.lrow hb (by omega)
  rw [hsv]
  refine hcall.mono ?_
  rintro e1 w' ⟨rfl,lv',W1,hG,hrow,rfl⟩
  rw [← hsv] at hrow
  obtain ⟨h1,h2⟩:=h.addTop hf hfs hG hrow hs hbv
  refine ⟨rfl,⟨_,_,_,_,_,h1⟩,h2.below hb ?_⟩
  rintro k (hk | rfl)
  ·exact (hf.lrow.lt k hk).1
  ·exact (hf.brow.lt k (by rw [hbv]; rfl)).1
theorem wrong_any {W : World} {base R : Nat} {s : S} {tv iv : Value} {vs : List (Value × Value)} {cs xs : List Value} {m : Nat} (k : Int) (h : RS W base R s tv iv vs cs xs) (hm : Sm m s) (hm' : m ≤ 1000000) :
  Calls Tryz.prog 48 #[.pointer (some ⟨R,0,none⟩), .int .i64 k] W fun e w' => e = .returned (.int .i64 (if wrong k s.2 then 50 else 0)) ∧ ∃ q,w' = W.drewN q:=by
 obtain ⟨V,hV⟩ : ∃ V : Int,V = (if wrong k s.2 then 50 else 0):=⟨_,rfl⟩
 rw [← hV]
 obtain ⟨out,st⟩:=s
 have hm2:=hm.2.1
 dsimp only at hV
 dsimp only at hm2
 have hcs : (k == 5) = true ∨ ((k == 5) = false ∧ (k == 6) = true) ∨ ((k == 5) = false ∧ (k == 6) = false ∧ (k == 7) = true) ∨ ((k == 5) = false ∧ (k == 6) = false ∧ (k == 7) = false):=by
  cases k == 5 <;> cases k == 6 <;> cases k == 7 <;> simp
 cases st with
 | nil =>
  obtain ⟨a,c,rfl⟩:=row_form0 h.trow
  have HC:=Lib.hid h.c1
  have hw : ∀ b,(parts k || k == 7) = b → wrong k [] = b:=fun b hb => by rw [← hb]; simp [wrong,noElse,isNil]
  rcases hcs with q1 | ⟨q1,q2⟩ | ⟨q1,q2,q3⟩ | ⟨q1,q2,q3⟩
  ·obtain rfl : V = 50:=by rw [hV,hw true (by simp [parts,q1])]; rfl
   clear hw hV h
   go_enter Tryz.func48,Tryz.ntmps48
   go_wp2_with fail
   refine (top_nil R c a W HC.out).mono ?_
   rintro e w' ⟨rfl,rfl⟩
   go_wp2_with fail
   go_ret
   exact ⟨rfl,0,rfl⟩
  ·obtain rfl : V = 50:=by rw [hV,hw true (by simp [parts,q2])]; rfl
   clear hw hV h
   go_enter Tryz.func48,Tryz.ntmps48
   go_wp2_with fail
   refine (top_nil R c a W HC.out).mono ?_
   rintro e w' ⟨rfl,rfl⟩
   go_wp2_with fail
   go_ret
   exact ⟨rfl,0,rfl⟩
  ·obtain rfl : V = 50:=by rw [hV,hw true (by simp [parts,q3])]; rfl
   clear hw hV h
   go_enter Tryz.func48,Tryz.ntmps48
   go_wp2_with fail
   refine (top_nil R c a W HC.out).mono ?_
   rintro e w' ⟨rfl,rfl⟩
   go_wp2_with fail
   go_ret
   exact ⟨rfl,0,rfl⟩
  ·obtain rfl : V = 0:=by rw [hV,hw false (by simp [parts,q1,q2,q3])]; rfl
   clear hw hV h
   go_enter Tryz.func48,Tryz.ntmps48
   go_wp2_with fail
   refine (top_nil R c a W HC.out).mono ?_
   rintro e w' ⟨rfl,rfl⟩
   go_wp2_with fail
   go_ret
   exact ⟨rfl,0,rfl⟩
 | cons f st =>
  obtain ⟨bv,lv,vs',cs',bxs,lxs,gt,tc,gb,bc, -, -, -, -,htv, -, -, -, -, -,c3, -⟩:=h.top
  simp only [List.length_cons] at hm2
  have hc1:=h.c1
  rw [htv] at hc1
  have HC:=Lib.hid hc1
  have hml : st.length ≤ 1000000:=by omega
  have hw : ∀ b,(parts k && f.els) = b → wrong k (f :: st) = b:=fun b hb => by rw [← hb]; simp [wrong,noElse,isNil]
  obtain ⟨els,hels⟩ : ∃ els,els = f.els:=⟨_,rfl⟩
  rw [← hels] at c3 hw
  obtain ⟨n,hn⟩ : ∃ n,n = st.length:=⟨_,rfl⟩
  rw [← hn] at c3 hml HC
  have Hn:=Lib.hid hn
  have C3:=fun q => (show (W.drewN q).cell? ⟨gt,n * 4 + 3,none⟩ = some (.bool els) from c3)
  clear hels h htv hn hc1
  rcases hcs with q1 | ⟨q1,q2⟩ | ⟨q1,q2,q3⟩ | ⟨q1,q2,q3⟩
  ·cases els
   ·obtain rfl : V = 0:=by rw [hV,hw false (by simp)]; rfl
    clear hw hV
    go_enter Tryz.func48,Tryz.ntmps48
    go_wp2_with fail
    refine (top_cons R gt n tc W HC.out hml).mono ?_
    rintro e w' ⟨rfl,q,rfl⟩
    have c3':=C3 q
    go_wp2_with fail
    go_ret
    exact ⟨rfl,_,rfl⟩
   ·obtain rfl : V = 50:=by rw [hV,hw true (by simp [parts,q1])]; rfl
    clear hw hV
    go_enter Tryz.func48,Tryz.ntmps48
    go_wp2_with fail
    refine (top_cons R gt n tc W HC.out hml).mono ?_
    rintro e w' ⟨rfl,q,rfl⟩
    have c3':=C3 q
    go_wp2_with fail
    go_ret
    exact ⟨rfl,_,rfl⟩
  ·cases els
   ·obtain rfl : V = 0:=by rw [hV,hw false (by simp)]; rfl
    clear hw hV
    go_enter Tryz.func48,Tryz.ntmps48
    go_wp2_with fail
    refine (top_cons R gt n tc W HC.out hml).mono ?_
    rintro e w' ⟨rfl,q,rfl⟩
    have c3':=C3 q
    go_wp2_with fail
    go_ret
    exact ⟨rfl,_,rfl⟩
   ·obtain rfl : V = 50:=by rw [hV,hw true (by simp [parts,q2])]; rfl
    clear hw hV
    go_enter Tryz.func48,Tryz.ntmps48
    go_wp2_with fail
    refine (top_cons R gt n tc W HC.out hml).mono ?_
    rintro e w' ⟨rfl,q,rfl⟩
    have c3':=C3 q
    go_wp2_with fail
    go_ret
    exact ⟨rfl,_,rfl⟩
  ·obtain rfl : V = 0:=by rw [hV,hw false (by simp [parts,q1,q2])]; rfl
   clear hw hV
   go_enter Tryz.func48,Tryz.ntmps48
   go_wp2_with fail
   refine (top_cons R gt n tc W HC.out hml).mono ?_
   rintro e w' ⟨rfl,q,rfl⟩
   go_wp2_with fail
   go_ret
   exact ⟨rfl,_,rfl⟩
  ·obtain rfl : V = 0:=by rw [hV,hw false (by simp [parts,q1,q2])]; rfl
   clear hw hV
   go_enter Tryz.func48,Tryz.ntmps48
   go_wp2_with fail
   refine (top_cons R gt n tc W HC.out hml).mono ?_
   rintro e w' ⟨rfl,q,rfl⟩
   go_wp2_with fail
   go_ret
   exact ⟨rfl,_,rfl⟩
end Cnd
namespace Cnd
open Go.RowKit
open Ct Ct.T
abbrev Same' (w w' : World) : Prop:=Only w w' (fun _ => False)
theorem Same'.gr {w w' : World} (h : Same' w w') (v : Value) : Gr w w' v v:=⟨⟨h.os,h.tape,h.output,h.size,fun k hk _ => h.block k hk (fun x => x)⟩,fun _ e => .inl e⟩
theorem Same'.trans {a b c : World} (h : Same' a b) (k : Same' b c) : Same' a c :=
 ⟨k.os.trans h.os,k.tape.trans h.tape,k.output.trans h.output,Nat.le_trans h.size k.size,fun i hi _ => (k.block i (Nat.lt_of_lt_of_le hi h.size) (fun x => x)).trans (h.block i hi (fun x => x))⟩
theorem Same'.alloc (w : World) (o : Obj) : Same' w (w.alloc o):=⟨rfl,rfl,rfl,by simp,fun k hk _ => Below.heap_alloc w o k hk⟩
theorem Same'.drewN (w : World) (q : Nat) : Same' w (w.drewN q):=⟨rfl,rfl,rfl,Nat.le_refl _,fun _ _ _ => rfl⟩
theorem Same'.drew (w : World) : Same' w w.drew:=⟨rfl,rfl,rfl,Nat.le_refl _,fun _ _ _ => rfl⟩
theorem Same'.of_nil {w w' : World} {n c : Nat} {u' : Value} (h : Gr w w' (.slice none n c) u') : Same' w w':=⟨h.g.os,h.g.tape,h.g.output,h.g.size,fun k hk _ => h.block hk (by simp [nil_own])⟩
theorem Same'.set_new {w w' : World} (h : Same' w w') {a : Addr} (ha : w.heap.size ≤ a.block) (u : Value) : Same' w (w'.setCell a u) :=
 ⟨h.os,h.tape,h.output,by simpa using h.size,fun k hk _ => by rw [Below.heap_setCell _ _ _ _ (by omega)]; exact h.block k hk (fun x => x)⟩
theorem Same'.below {w w' : World} (h : Same' w w') {B : Nat} (hB : B ≤ w.heap.size) : Below B w w':=Only.below h hB (fun _ x => x.elim)
theorem take_begins {W : World} {base R : Nat} {out : T} {st : List Fm} {tv iv : Value} {vs : List (Value × Value)} {cs xs : List Value} {m : Nat} (i : Nat) (k : Int) (hk : begins k = true) (h : RS W base R (out,st) tv iv vs cs xs) (hm : Sm m (out,st)) (hm' : m ≤ 900000) (hb : base ≤ W.heap.size) :
  Calls Tryz.prog 49 #[.pointer (some ⟨R,0,none⟩), .int .i64 i, .int .i64 k] W (StepPost W base R (out,⟨i,false,nil,i,nil⟩ :: st)):=by
 have hm2:=hm.2.1
 dsimp only at hm2
 have hcs : (k == 2) = true ∨ ((k == 2) = false ∧ (k == 3) = true) ∨ ((k == 2) = false ∧ (k == 3) = false ∧ (k == 4) = true):=by
  rw [begins] at hk
  cases h2 : k == 2 <;> cases h3 : k == 3 <;> cases h4 : k == 4 <;> simp_all
 have H:=Lib.hid h
 have HM:=Lib.hid hm
 obtain ⟨n,hn⟩ : ∃ n,n = st.length:=⟨_,rfl⟩
 rw [← hn] at hm2
 have Hn:=Lib.hid hn
 clear hk hn h hm
 rcases hcs with q1 | ⟨q1,q2⟩ | ⟨q1,q2,q3⟩
 all_goals
  go_enter Tryz.func49,Tryz.ntmps49
  go_wp2_with fail
  have hbx : (W.alloc (.cells #[.int .i64 i, .int .i64 0, .slice none 0 0, .bool false] 126)).heap[W.heap.size]? = some (.cells #[.int .i64 i, .int .i64 0, .slice none 0 0, .bool false] 126 (0,0)):=heap_alloc_new W _
  refine (begin_any W.heap.size 0 i 0 base (.slice none 0 0) [] _ (by simp) (frozen_of_row _ _ _ _ _ hbx) (World.ownsRow_nil _ _ _ _) (by simp [nil_own]) (by simp; omega) (by omega)).mono ?_
  rintro e w1 ⟨rfl,bv,W1,hG,hrow,rfl⟩
  have hbl : W1.heap[W.heap.size]? = some (.cells #[.int .i64 i, .int .i64 0, .slice none 0 0, .bool false] 126 (0,0)):=(hG.block (by simp) (by simp [nil_own])).trans hbx
  have hnew : ∀ k,bv.ownBlock = some k → W.heap.size + 1 ≤ k:=fun k e => by
   rcases hG.own k e with h | h
   ·cases h
   ·simpa using h
  have hO1 : Same' W (W1.setCell ⟨W.heap.size,0 + 2,none⟩ bv):=((Same'.alloc W _).trans (Same'.of_nil hG)).set_new (Nat.le_refl _) bv
  obtain ⟨gb,bc,hbv, -⟩:=row_form1 hrow
  have hrow2 : (W1.setCell ⟨W.heap.size,0 + 2,none⟩ bv).ownsRow base 148 2 bv 1 [.int .i64 i, .slice none 0 0]:=ownsRow_setCell_other hrow (fun e => by have:=hnew _ e; dsimp only at this; omega) _
  have hbl2 : (W1.setCell ⟨W.heap.size,0 + 2,none⟩ bv).heap[W.heap.size]? = some (.cells #[.int .i64 i, .int .i64 0,bv, .bool false] 126 (0,0)):=by
   simp [World.setCell,Array.getElem?_modify,hbl]
  generalize (W1.setCell ⟨W.heap.size,0 + 2,none⟩ bv) = W2 at hO1 hrow2 hbl2 ⊢
  subst hbv
  have c0 : W2.cell? ⟨W.heap.size,0,none⟩ = some (.int .i64 i):=by simp [World.cell?,hbl2]
  have c1 : W2.cell? ⟨W.heap.size,1,none⟩ = some (.int .i64 0):=by simp [World.cell?,hbl2]
  have c2 : W2.cell? ⟨W.heap.size,2,none⟩ = some (.slice (some ⟨gb,0,none⟩) (0 + 1) bc):=by simp [World.cell?,hbl2]
  have c3 : W2.cell? ⟨W.heap.size,3,none⟩ = some (.bool false):=by simp [World.cell?,hbl2]
  go_wp2_with fail
  go_still_tail 4,(by kernel_rfl)
  change wpList _ _ _ _ _ W2.drew
  have hO2:=hO1.trans (Same'.drew W2)
  have hrow3 : W2.drew.ownsRow base 148 2 (.slice (some ⟨gb,0,none⟩) (0 + 1) bc) 1 [.int .i64 i, .slice none 0 0]:=hrow2
  clear c0 c1 c2 c3 hO1 hrow2 hbl2
  generalize W2.drew = W3 at hO2 hrow3 ⊢
  have h3:=H.out.keep hO2
  have HC:=Lib.hid h3.c1
  have HF:=Lib.hid (h3.fz 1)
  have ht:=h3.trow
  dsimp only at ht
  rw [← Hn.out] at ht
  have HT:=Lib.hid ht
  have HNR:=Lib.hid (h3.nR _ (mem_own.2 (.inl rfl)))
  have HO:=Lib.hid hO2
  have HR3:=Lib.hid hrow3
  have HNW:=Lib.hid hnew
  have hsz:=hO2.size
  clear h3 ht hO2 hrow3 hnew hG hrow hbl hbx
  go_wp2_with fail
  refine (push_any R n base i 1 bc (some ⟨gb,0,none⟩) false tv cs W3 HC.out HF.out HT.out HNR.out (by omega) (by omega)).mono ?_
  rintro e w4 ⟨rfl,tv',W4,hG4,hrow4,q,rfl⟩
  have hbv4 : W4.ownsRow base 148 2 (.slice (some ⟨gb,0,none⟩) 1 bc) 1 [.int .i64 i, .slice none 0 0]:=row_heap HR3.out fun k e => hG4.block (HR3.out.lt k e).2 fun e' => by
   have h1:=HNW.out k e
   have h2:=(H.out.trow.lt k e').2
   omega
  have hne : Ap tv' (.slice (some ⟨gb,0,none⟩) 1 bc):=fun k e e' => by
   have h1:=HNW.out k e'
   have h4:=(HR3.out.lt k e').2
   rcases hG4.own k e with h2 | h2
   ·have h2:=(H.out.trow.lt k h2).2; omega
   ·omega
  rw [Hn.out] at hrow4
  obtain ⟨h5,h6⟩:=H.out.pushed ((HO.out.gr tv).trans hG4) hrow4 hbv4 (fun k e => by have:=HNW.out k e; omega) hne
  have hfin : StepPost W base R (out,⟨i,false,nil,i,nil⟩ :: st) (.returned (.tuple #[])) ((W4.setCell ⟨R,1,none⟩ tv').drewN q):=by
   refine ⟨rfl,⟨_,_,_,_,_,h5.drewN q⟩,?_⟩
   have:=h6.below hb (fun k x => by
    rcases x with x | rfl
    ·exact (H.out.trow.lt k x).1
    ·exact H.out.hR)
   exact below_drewN this q
  have HFin:=Lib.hid hfin
  clear hfin h5 h6 hne hbv4 hrow4 hG4
  go_wp2_with fail
  exact bodyPost_ret (v:=.tuple #[]) (by simp [results,Tryz.results49,go_sem]) rfl HFin.out
theorem take_parts {W : World} {base R : Nat} {out : T} {f : Fm} {st : List Fm} {tv iv : Value} {vs : List (Value × Value)} {cs xs : List Value} {m : Nat} (i : Nat) (k : Int) (hk : parts k = true) (h : RS W base R (out,f :: st) tv iv vs cs xs) (hm : Sm m (out,f :: st)) (hm' : m ≤ 900000) (hb : base ≤ W.heap.size) :
  Calls Tryz.prog 49 #[.pointer (some ⟨R,0,none⟩), .int .i64 i, .int .i64 k] W (StepPost W base R (out,⟨f.line,k == 6,f.dn.snoc f.b 0 f.cur,i,nil⟩ :: st)):=by
 have hm2:=hm.2.1
 have hm3:=hm.2.2 f (by simp)
 simp only [List.length_cons] at hm2
 have hcs : ((k == 2) = false ∧ (k == 3) = false ∧ (k == 4) = false) ∧ (((k == 5) = true ∧ (k == 6) = false) ∨ ((k == 5) = false ∧ (k == 6) = true)):=by
  rw [parts_iff] at hk
  rcases hk with rfl | rfl <;> simp
 obtain ⟨E,hE⟩ : ∃ E,E = (k == 6):=⟨_,rfl⟩
 rw [← hE]
 rw [← hE] at hcs
 have hE':=hE.symm
 obtain ⟨bv,lv,vs',cs',bxs,lxs,gt,tc,gb,bc,rfl,rfl,hf,hfs,htv,ht1,hbv,c0,c1,c2,c3,c4,c5,c6,n1,n2⟩:=h.top
 have hc1:=h.c1
 rw [htv] at hc1
 obtain ⟨n,hn⟩ : ∃ n,n = st.length:=⟨_,rfl⟩
 rw [← hn] at hm2 hc1
 have HC:=Lib.hid hc1
 have hfin : ∀ q w' bv' W1,Gr ((W.drewN q).setCell ⟨gt,n * 4 + 3,none⟩ (.bool E)) W1 bv bv' → W1.ownsRow base 148 2 bv' (f.dn.len + 1 + 1) (bxs ++ [.int .i64 f.b,lv] ++ [.int .i64 i, .slice none 0 0]) → w' = W1.setCell ⟨gt,n * 4 + 2,none⟩ bv' → StepPost W base R (out,⟨f.line,E,f.dn.snoc f.b 0 f.cur,i,nil⟩ :: st) (.returned (.tuple #[])) w':=by
  intro q w' bv' W1 hG hrow he
  have hq:=h.drewN q
  have hk : ∀ g,okb R (own tv iv ((bv,lv) :: vs')) g → g < W.heap.size → okb R (own tv iv ((bv,lv) :: vs')) g ∧ (W.drewN q).heap[g]? = W.heap[g]?:=fun g hg _ => ⟨hg,rfl⟩
  obtain ⟨e1,e2,e3,e4⟩:=hq.els E (hf.keep hk (fun _ _ => rfl) (fun _ _ => rfl)) (Frs.keep hk _ _ _ hfs (fun _ _ _ _ => rfl)) htv
  rw [hn] at hG
  obtain ⟨e5,e6⟩:=e1.begun e2 e3 hG hrow htv
  rw [he,hn]
  refine ⟨rfl,⟨_,_,_,_,_,e5⟩,?_⟩
  have hgt : base ≤ gt:=(h.trow.lt gt (by rw [htv]; rfl)).1
  refine ((Same'.drewN W q).below hb).trans ((e4.below (B:=base) hb (by rintro k rfl; exact hgt)).trans (e6.below (by simpa using hb) ?_))
  rintro k (x | rfl)
  ·exact (hf.brow.lt k x).1
  ·exact hgt
 have hrow1 : ∀ q,((W.drewN q).setCell ⟨gt,n * 4 + 3,none⟩ (.bool E)).ownsRow base 148 2 bv (f.dn.len + 1) (bxs ++ [.int .i64 f.b,lv]):=fun q => ownsRow_setCell_other (w:=W.drewN q) hf.brow n1 _
 have hcell : ∀ q,((W.drewN q).setCell ⟨gt,n * 4 + 3,none⟩ (.bool E)).cell? ⟨gt,n * 4 + 2,none⟩ = some bv:=fun q => by
  rw [World.cell?_setCell_other _ _ _ _ (by simp),hn]
  exact c2
 have hfr : ∀ q,((W.drewN q).setCell ⟨gt,n * 4 + 3,none⟩ (.bool E)).frozen? ⟨gt,n * 4 + 2,none⟩ = false:=fun q => by
  rw [World.frozen?_setCell]
  exact c4 _
 have C3:=fun q => (show (W.drewN q).cell? ⟨gt,n * 4 + 3,none⟩ = some (.bool f.els) by rw [hn]; exact c3)
 have C4:=fun q => (show (W.drewN q).frozen? ⟨gt,n * 4 + 3,none⟩ = false from c4 _)
 have HFin:=Lib.hid hfin
 have HR1:=Lib.hid hrow1
 have HCell:=Lib.hid hcell
 have HFr:=Lib.hid hfr
 have HN1:=Lib.hid n1
 obtain ⟨dn,hdn⟩ : ∃ dn,dn = f.dn.len:=⟨_,rfl⟩
 rw [← hdn] at hm3
 have Hdn:=Lib.hid hdn
 clear hdn hfin hrow1 hcell hfr n1 n2 c0 c1 c2 c3 c4 c5 c6 hbv htv hf hfs h hc1 hn hm hk hE
 obtain ⟨⟨p1,p2,p3⟩,hcs⟩:=hcs
 rcases hcs with ⟨p4,p5⟩ | ⟨p4,p5⟩
 all_goals
  subst p5
  go_enter Tryz.func49,Tryz.ntmps49
  go_wp2_with fail
  refine (top_cons R gt n tc W HC.out (by omega)).mono ?_
  rintro e w' ⟨rfl,q,rfl⟩
  have c3:=C3 q
  have c4:=C4 q
  go_wp2_with fail
  refine (begin_any gt (n * 4) i (dn + 1) base bv (bxs ++ [.int .i64 f.b,lv]) _ (HCell.out q) (HFr.out q) (by rw [Hdn.out]; exact HR1.out q) HN1.out (by simpa using hb) (by omega)).mono ?_
  rintro e w5 ⟨rfl,bv',W1,hG,hrow,he⟩
  rw [Hdn.out] at hrow
  have HF5:=Lib.hid (HFin.out q w5 bv' W1 hG hrow he)
  clear hG hrow he c3 c4
  go_wp2_with fail
  exact bodyPost_ret (v:=.tuple #[]) (by simp [results,Tryz.results49,go_sem]) rfl HF5.out
theorem plain_facts {k : Int} (hk : plain k = true) : (k == 2) = false ∧ (k == 3) = false ∧ (k == 4) = false ∧ (k == 5) = false ∧ (k == 6) = false ∧ (k == 7) = false:=by
 simp only [plain,begins,parts,Bool.and_eq_true,Bool.not_eq_true',Bool.or_eq_false_iff] at hk
 simp [hk]
theorem take_plain {W : World} {base R : Nat} {s : S} {tv iv : Value} {vs : List (Value × Value)} {cs xs : List Value} {m : Nat} (i : Nat) (k : Int) (hk : plain k = true) (h : RS W base R s tv iv vs cs xs) (hm : Sm m s) (hm' : m ≤ 900000) (hb : base ≤ W.heap.size) :
  Calls Tryz.prog 49 #[.pointer (some ⟨R,0,none⟩), .int .i64 i, .int .i64 k] W (StepPost W base R (Ct.add i i nil s)):=by
 obtain ⟨p1,p2,p3,p4,p5,p6⟩:=plain_facts hk
 have HA:=Lib.hid (add_any (l:=i) (e:=i) (s':=nil) h (TS.nil_at _ _ _ none 0 (Nat.zero_le _)) hm (by omega) hb)
 clear hk h hm
 go_enter Tryz.func49,Tryz.ntmps49
 go_wp2_with fail
 refine HA.out.mono ?_
 rintro e w' ⟨rfl,h1,h2⟩
 have HF:=Lib.hid (show StepPost W base R (Ct.add i i nil s) (.returned (.tuple #[])) w' from ⟨rfl,h1,h2⟩)
 clear h1 h2
 go_wp2_with fail
 exact bodyPost_ret (v:=.tuple #[]) (by simp [results,Tryz.results49,go_sem]) rfl HF.out
theorem run_item (a b c d : Value) (W : World) : (Instr.field 126 (.agg #[a,b,c,d]) 0).run Tryz.prog W = .ok (.agg #[a,b,c]) W:=by
 kernel_rfl
theorem take_ends {W : World} {base R : Nat} {out : T} {f : Fm} {st : List Fm} {tv iv : Value} {vs : List (Value × Value)} {cs xs : List Value} {m : Nat} (i : Nat) (h : RS W base R (out,f :: st) tv iv vs cs xs) (hm : Sm m (out,f :: st)) (hm' : m ≤ 900000) (hb : base ≤ W.heap.size) :
  Calls Tryz.prog 49 #[.pointer (some ⟨R,0,none⟩), .int .i64 i, .int .i64 7] W (StepPost W base R (Ct.add f.line i (f.dn.snoc f.b 0 f.cur) (out,st))):=by
 have hm2:=hm.2.1
 simp only [List.length_cons] at hm2
 obtain ⟨bv,lv,vs',cs',bxs,lxs,gt,tc,gb,bc,rfl,rfl,hf,hfs,htv,ht1,hbv,c0,c1,c2,c3,c4,c5,c6,n1,n2⟩:=h.top
 have hc1:=h.c1
 rw [htv] at hc1
 obtain ⟨n,hn⟩ : ∃ n,n = st.length:=⟨_,rfl⟩
 rw [hbv] at c2
 have HP:=Lib.hid (pop_any R gt st.length tc f.line (f.dn.len + 1) bc (some ⟨gb,0,none⟩) f.els W hc1 (h.fz 1) (by omega) ht1 c0 c1 c2 c3)
 have hfin : ∀ (o o' : Obj) (W2 : World),Same' (((W.setCell ⟨R,1,none⟩ (.slice (some ⟨gt,0,none⟩) st.length tc)).alloc o).alloc o') W2 → Calls Tryz.prog 90 #[.pointer (some ⟨R,0,none⟩), .agg #[.int .i64 f.line, .int .i64 i, .slice (some ⟨gb,0,none⟩) (f.dn.len + 1) bc]] W2 (StepPost W base R (Ct.add f.line i (f.dn.snoc f.b 0 f.cur) (out,st))):=by
  intro o o' W2 hS
  obtain ⟨h1,h2,h3⟩:=h.popped hf hfs htv
  have hS' : Same' (W.setCell ⟨R,1,none⟩ (.slice (some ⟨gt,0,none⟩) st.length tc)) W2:=((Same'.alloc _ o).trans (Same'.alloc _ o')).trans hS
  have hb1 : base ≤ (W.setCell ⟨R,1,none⟩ (.slice (some ⟨gt,0,none⟩) st.length tc)).heap.size:=by simpa using hb
  have hB : Below base W W2:=(h3.below hb (by rintro k rfl; exact h.hR)).trans (hS'.below hb1)
  rw [← hbv]
  refine (add_any (l:=f.line) (e:=i) (h1.keep hS') (TS.keep h2 fun g hg hlt => ⟨hg,hS'.block g hlt (fun x => x)⟩) (m:=m) ⟨hm.1,by dsimp only; omega,fun f' hf' => hm.2.2 f' (by simp [hf'])⟩ (by omega) (Nat.le_trans hb1 hS'.size)).mono ?_
  rintro e w' ⟨rfl,h4,h5⟩
  exact ⟨rfl,h4,hB.trans h5⟩
 have HF:=Lib.hid hfin
 obtain ⟨L,hL⟩ : ∃ L,L = f.line:=⟨_,rfl⟩
 rw [← hL] at HP HF
 rw [← hL]
 clear hfin hf hfs h hm hL
 go_enter Tryz.func49,Tryz.ntmps49
 go_wp2_with fail
 refine HP.out.mono ?_
 rintro e w' ⟨rfl,o,o',hw'⟩
 have hS : Same' (((W.setCell ⟨R,1,none⟩ (.slice (some ⟨gt,0,none⟩) st.length tc)).alloc o).alloc o') w':=by rw [hw']; exact ⟨rfl,rfl,rfl,Nat.le_refl _,fun _ _ _ => rfl⟩
 clear hw'
 have HSS:=Lib.hid hS
 have hrun:=run_item (.int .i64 L) (.int .i64 0) (.slice (some ⟨gb,0,none⟩) (f.dn.len + 1) bc) (.bool f.els) w'
 clear hS c0 c1 c2 c3 c5 hc1
 go_wp2_with fail
 refine (HF.out o o' _ (HSS.out.trans (Same'.alloc _ _))).mono ?_
 rintro e w3 ⟨rfl,h4,h5⟩
 have HF5:=Lib.hid (show StepPost W base R (Ct.add L i (f.dn.snoc f.b 0 f.cur) (out,st)) (.returned (.tuple #[])) w3 from ⟨rfl,h4,h5⟩)
 clear h4 h5
 go_wp2_with fail
 exact bodyPost_ret (v:=.tuple #[]) (by simp [results,Tryz.results49,go_sem]) rfl HF5.out
theorem take_any {W : World} {base R : Nat} {s : S} {m : Nat} (i : Nat) (k : Int) (hw : wrong k s.2 = false) (h : RSx W base R s) (hm : Sm m s) (hm' : m ≤ 900000) (hb : base ≤ W.heap.size) :
  Calls Tryz.prog 49 #[.pointer (some ⟨R,0,none⟩), .int .i64 i, .int .i64 k] W (StepPost W base R (Ct.take i k s)):=by
 obtain ⟨tv,iv,vs,cs,xs,h⟩:=h
 obtain ⟨out,st⟩:=s
 unfold Ct.take
 by_cases h1 : begins k
 ·rw [if_pos h1]
  exact take_begins i k h1 h hm hm' hb
 ·rw [if_neg h1]
  by_cases h2 : parts k
  ·rw [if_pos h2]
   cases st with
   | nil => simp [wrong,h2,noElse] at hw
   | cons f st => exact take_parts i k h2 h hm hm' hb
  ·rw [if_neg h2]
   by_cases h3 : k == 7
   ·rw [if_pos h3]
    obtain rfl : k = 7:=by simpa using h3
    cases st with
    | nil => simp [wrong,isNil] at hw
    | cons f st => exact take_ends i h hm hm' hb
   ·rw [if_neg h3]
    exact take_plain i k (by simp [plain,h1,h2,h3]) h hm hm' hb
end Cnd
namespace Cnd
open Go.RowKit
open Ct Ct.T
theorem RS.tree {W : World} {base R : Nat} {s : S} {tv iv : Value} {vs : List (Value × Value)} {cs xs : List Value} (h : RS W base R s tv iv vs cs xs) : Tr W iv s.1 :=
 TS.of_row (b:=true) h.irow (CT.keep (fun _ _ hlt => ⟨hlt,rfl⟩) _ _ _ h.out) fun k e => (h.irow.lt k e).2
theorem RS.begin' (w : World) : RS (w.alloc (.cells #[.slice none 0 0, .slice none 0 0] 117)) w.heap.size w.heap.size (nil,[]) (.slice none 0 0) (.slice none 0 0) [] [] []:=by
 refine ⟨heap_alloc_new w _,Nat.le_refl _,?_,?_,World.ownsRow_nil _ _ _ _,rfl,World.ownsRow_nil _ _ _ _,rfl⟩
 ·intro v hv
  simp only [own,owns,List.flatMap_nil,List.mem_cons,List.not_mem_nil,or_false] at hv
  rcases hv with rfl | rfl <;> simp [nil_own]
 ·simp [own,owns,Ap,nil_own]
theorem drop_cons' {ks : List Int} {k : Nat} {x : Int} (h : ks[k]? = some x) : ks.drop k = x :: ks.drop (k + 1):=by
 obtain ⟨h1,h2⟩:=List.getElem?_eq_some_iff.1 h
 rw [List.drop_eq_getElem_cons h1,h2]
def ParsePost (w : World) (r : T × Nat × Nat) (e : Ending) (w' : World) : Prop:=∃ u,e = .returned (.tuple #[u, .int .i64 r.2.1, .int .i64 r.2.2]) ∧ Tr w' u r.1 ∧ Below w.heap.size w w'
theorem Tr.nil (W : World) : Tr W (.slice none 0 0) nil:=TS.nil_at _ _ _ _ _ (Nat.zero_le _)
theorem parse_any (v : Value) (ks : List Int) (w : World) (hv : Lns w v ks) (hl : ks.length ≤ 800000) : Calls Tryz.prog 25 #[v] w (ParsePost w (Ct.parse ks)):=by
 obtain ⟨r,hr⟩ : ∃ r,r = Ct.parse ks:=⟨_,rfl⟩
 rw [← hr]
 obtain ⟨ad,cap,rfl,h1,h2,h3⟩:=hv
 obtain ⟨n,hn⟩ : ∃ n,n = ks.length:=⟨_,rfl⟩
 rw [← hn] at hl h1 h3
 rw [← hn]
 have hr' : ∀ y,Ct.go 0 ks (nil,[]) = y → r = fin y:=fun y hy => by rw [hr,Ct.parse,hy]
 have Hr:=Lib.hid hr'
 have Hn:=Lib.hid hn
 have H3:=Lib.hid h3
 unfold maxLen at h2
 clear hn h3 hr hr'
 go_enter Tryz.func25,Tryz.ntmps25
 go_wp2_with fail
 go_loopw [12] (fun i wr => ∃ (k : Nat) (s : S),i = .int .i64 k ∧ k ≤ n ∧ Ct.go k (ks.drop k) s = Ct.go 0 ks (nil,[]) ∧ RSx wr w.heap.size w.heap.size s ∧ Sm k s ∧ Below w.heap.size w wr) (fun i _ => n - (intOf i).toNat)
 case atStart => exact ⟨0,(nil,[]),rfl,Nat.zero_le _,rfl,⟨_,_,_,_,_,RS.begin' w⟩,⟨by simp [T.len],by simp,by simp⟩,(Below.refl _ _).alloc (Nat.le_refl _) _⟩
 case round =>
  obtain ⟨k,s,rfl,hk,hgo,hRS,hSm,hB⟩:=hrel
  have hsB:=hB.size
  by_cases hlt : k < n
  ·obtain ⟨g,o,rfl,hg,hc⟩:=H3.out (by omega)
   obtain ⟨x,hx⟩ : ∃ x,ks[k]? = some x:=⟨_,List.getElem?_eq_getElem (by rw [← Hn.out]; exact hlt)⟩
   obtain ⟨d0,lf,ln,ua,ul,uc,d1,d2,d3⟩:=hc k x hx
   replace d0:=(hB.cell (p:=⟨g,o + k * 4,none⟩) hg).trans d0
   replace d1:=(hB.cell (p:=⟨g,o + k * 4 + 1,none⟩) hg).trans d1
   replace d2:=(hB.cell (p:=⟨g,o + k * 4 + 2,none⟩) hg).trans d2
   replace d3:=(hB.cell (p:=⟨g,o + k * 4 + 3,none⟩) hg).trans d3
   rw [drop_cons' hx,Ct.go] at hgo
   obtain ⟨tv,iv,vs,cs,xs,hS⟩:=hRS
   have HS:=Lib.hid hS
   have HSm:=Lib.hid hSm
   cases hw : wrong x s.2 with
   | true =>
    rw [hw,if_pos rfl] at hgo
    have Hgo:=Lib.hid (Hr.out _ hgo.symm)
    have HW:=Lib.hid (wrong_any x (hS.alloc (.cells #[.int .i64 x, .int .i64 lf, .int .i64 ln, .slice ua ul uc] 46)) hSm (by omega))
    rw [hw,if_pos rfl] at HW
    clear hc hx hgo hS hSm hw
    go_wp2_with fail
    refine HW.out.mono ?_
    rintro e w' ⟨rfl,q,rfl⟩
    go_wp2_with fail
    rw [Hgo.out]
    exact bodyPost_ret (v:=.tuple #[.slice none 0 0, .int .i64 k, .int .i64 50]) (by simp [results,Tryz.results25,go_sem]) rfl ⟨_,rfl,Tr.nil _,below_drewN (hB.alloc hsB _) q⟩
   | false =>
    rw [hw,if_neg (by simp)] at hgo
    have Hgo:=Lib.hid hgo
    have HW:=Lib.hid (wrong_any x (hS.alloc (.cells #[.int .i64 x, .int .i64 lf, .int .i64 ln, .slice ua ul uc] 46)) hSm (by omega))
    rw [hw,if_neg (by simp)] at HW
    have Hw:=Lib.hid hw
    clear hc hx hgo hS hSm hw
    go_wp2_with fail
    refine HW.out.mono ?_
    rintro e w' ⟨rfl,q,rfl⟩
    have hbx : ((wr.alloc (.cells #[.int .i64 x, .int .i64 lf, .int .i64 ln, .slice ua ul uc] 46)).drewN q).cell? ⟨wr.heap.size,0,none⟩ = some (.int .i64 x):=by
     show (wr.alloc _).cell? _ = _
     simp
    have HS2:=Lib.hid ((HS.out.alloc (.cells #[.int .i64 x, .int .i64 lf, .int .i64 ln, .slice ua ul uc] 46)).drewN q)
    have HB2:=Lib.hid (below_drewN (hB.alloc hsB (.cells #[.int .i64 x, .int .i64 lf, .int .i64 ln, .slice ua ul uc] 46)) q)
    go_wp2_with fail
    refine (take_any k x Hw.out ⟨_,_,_,_,_,HS2.out⟩ HSm.out (by omega) (Nat.le_trans (Nat.le_refl _) HB2.out.size)).mono ?_
    rintro e w2 ⟨rfl,hR2,hBt⟩
    have HR2:=Lib.hid hR2
    have HB3:=Lib.hid (HB2.out.trans hBt)
    clear hR2 hBt d0 d1 d2 d3 hbx
    go_wp2_with fail
    go_roundw
    case rel => exact ⟨k + 1,Ct.take k x s,by go_num,hlt,Hgo.out,HR2.out,HSm.out.take,HB3.out⟩
    case measure => simp [intOf]; omega
  ·have : k = n:=by omega
   subst this
   rw [List.drop_eq_nil_of_le (by rw [← Hn.out]; exact Nat.le_refl _),Ct.go] at hgo
   obtain ⟨tv,iv,vs,cs,xs,hS⟩:=hRS
   have Hgo:=Lib.hid (Hr.out _ hgo.symm)
   obtain ⟨out,st⟩:=s
   have hm2:=hSm.2.1
   cases st with
   | nil =>
    obtain ⟨a,c,rfl⟩:=row_form0 hS.trow
    have HC:=Lib.hid hS.c1
    have hc0:=hS.c0
    have HT:=Lib.hid hS.tree
    clear hgo hS hSm
    go_wp2_with fail
    refine (top_nil _ c a wr HC.out).mono ?_
    rintro e w' ⟨rfl,hw'⟩
    rw [hw']
    clear hw'
    go_wp2_with fail
    rw [Hgo.out]
    exact bodyPost_ret (v:=.tuple #[iv, .int .i64 0, .int .i64 0]) (by simp [results,Tryz.results25,go_sem]) rfl ⟨_,rfl,HT.out,hB⟩
   | cons f st =>
    obtain ⟨bv,lv,vs',cs',bxs,lxs,gt,tc,gb,bc, -, -, -, -,htv, -, -,c0, -⟩:=hS.top
    simp only [List.length_cons] at hm2
    have hc1:=hS.c1
    rw [htv] at hc1
    have HC:=Lib.hid hc1
    obtain ⟨m,hm⟩ : ∃ m,m = st.length:=⟨_,rfl⟩
    rw [← hm] at c0 hm2 HC
    have C0:=fun q => (show (wr.drewN q).cell? ⟨gt,m * 4,none⟩ = some (.int .i64 f.line) from c0)
    obtain ⟨fl,hfl⟩ : ∃ fl,fl = f.line:=⟨_,rfl⟩
    rw [← hfl] at C0 c0
    have hfin : fin (.inr (out,f :: st)) = (nil,fl,51):=by rw [hfl]; rfl
    have HFn:=Lib.hid hfin
    clear hgo hS hSm hfl hfin htv hc1 hm
    go_wp2_with fail
    refine (top_cons _ gt m tc wr HC.out (by omega)).mono ?_
    rintro e w' ⟨rfl,q,rfl⟩
    have c0':=C0 q
    have HB2:=Lib.hid (below_drewN hB q)
    go_wp2_with fail
    go_quiet (fail)
    go_wp2_with fail
    rw [Hgo.out,HFn.out]
    exact bodyPost_ret (v:=.tuple #[.slice none 0 0, .int .i64 fl, .int .i64 51]) (by simp [results,Tryz.results25,go_sem]) rfl ⟨_,rfl,Tr.nil _,below_drewN HB2.out _⟩
end Cnd
section
open Go.RowKit Go.Shelf
open Bdd (Ar Nd Keep TellsN)
open Cnd.Ct Cnd.Ct.T
namespace Pm
def brs : Bool → T → Nat
 | _,nil => 0
 | true,cons _ _ s r => brs false s + brs true r
 | false,cons _ _ s r => 1 + brs true s + brs false r
def Wthn (L : Nat) : Bool → T → Prop
 | _,nil => True
 | true,cons _ e s r => e < L ∧ Wthn L false s ∧ Wthn L true r
 | false,cons l _ s r => l < L ∧ Wthn L true s ∧ Wthn L false r
theorem within_of (ks : List Int) (t : T) : ∀ (b : Bool) (i j : Nat),G ks b i t j → Wthn j b t:=by
 induction t with
 | nil => intro b i j _; cases b <;> trivial
 | cons l e s r ihs ihr =>
  intro b i j h
  have mono : ∀ (t : T) (b : Bool) (x y : Nat),x ≤ y → Wthn x b t → Wthn y b t:=by
   intro t
   induction t with
   | nil => intro b x y _ _; cases b <;> trivial
   | cons l e s r is ir =>
    intro b x y hxy h
    cases b with
    | true => exact ⟨Nat.lt_of_lt_of_le h.1 hxy,is _ _ _ hxy h.2.1,ir _ _ _ hxy h.2.2⟩
    | false => exact ⟨Nat.lt_of_lt_of_le h.1 hxy,is _ _ _ hxy h.2.1,ir _ _ _ hxy h.2.2⟩
  cases b with
  | true =>
   obtain ⟨rfl,h | h⟩:=h
   ·obtain ⟨rfl,rfl, -,h4⟩:=h
    have:=Gle ks _ _ _ _ h4
    exact ⟨by omega,trivial,ihr _ _ _ h4⟩
   ·obtain ⟨-, -,h3, -,h5⟩:=h
    have h6:=Gle ks _ _ _ _ h5
    exact ⟨by omega,mono _ _ _ _ (by omega) (ihs _ _ _ h3),ihr _ _ _ h5⟩
  | false =>
   obtain ⟨rfl,rfl,m,h1, -,h3⟩:=h
   have h4:=Gle ks _ _ _ _ h1
   have h5:=Gle ks _ _ _ _ h3
   exact ⟨by omega,mono _ _ _ _ (by omega) (ihs _ _ _ h1),ihr _ _ _ h3⟩
end Pm
def nodeCells (xs : List Nat) : Array Value:=(xs.map fun n : Nat => Value.int .i64 (n : Int)).toArray
theorem nodeCells_get {xs : List Nat} {i x : Nat} (h : xs[i]? = some x) : (nodeCells xs)[i]? = some (.int .i64 (x : Int)):=by simp [nodeCells,h]
theorem nodeCells_set (xs : List Nat) (i x : Nat) : (nodeCells xs).setIfInBounds i (.int .i64 (x : Int)) = nodeCells (xs.set i x):=by simp [nodeCells,List.map_set]
structure Away (p m nb : Nat) (sv : Value) (W : World) (b : Nat) : Prop where
 lt : b < W.heap.size
 np : b ≠ p
 nm : b ≠ m
 nn : b ≠ nb
 ns : sv.ownBlock ≠ some b
structure Kp (p m nb : Nat) (sv : Value) (W : World) (sv' : Value) (W' : World) : Prop where
 size : W.heap.size ≤ W'.heap.size
 blk : ∀ b,Away p m nb sv W b → W'.heap[b]? = W.heap[b]? ∧ Away p m nb sv' W' b
section
variable {p m nb : Nat} {sv sv' sv2 : Value} {W W' W2 : World}
theorem Kp.refl (p m nb : Nat) (sv : Value) (W : World) : Kp p m nb sv W sv W:=⟨Nat.le_refl _,fun _ h => ⟨rfl,h⟩⟩
theorem Kp.trans (h : Kp p m nb sv W sv' W') (k : Kp p m nb sv' W' sv2 W2) : Kp p m nb sv W sv2 W2 :=
 ⟨Nat.le_trans h.size k.size,fun b hb => ⟨(k.blk b (h.blk b hb).2).1.trans (h.blk b hb).1,(k.blk b (h.blk b hb).2).2⟩⟩
theorem Kp.of_fr (nb : Nat) (F : Bdd.Fr p m sv W sv' W') : Kp p m nb sv W sv' W' :=
 ⟨F.size,fun b hb => ⟨F.blk b hb.lt hb.np hb.nm hb.ns,⟨Nat.lt_of_lt_of_le hb.lt F.size,hb.np,hb.nm,hb.nn,fun e => by
  rcases F.own with h | h
  ·exact hb.ns (h ▸ e)
  ·have:=h b e; have:=hb.lt; omega⟩⟩⟩
theorem Kp.of_below (p m nb : Nat) (sv : Value) (hB : Below W.heap.size W W') : Kp p m nb sv W sv W':=Kp.of_fr nb (Bdd.Fr.of_below hB p m sv)
theorem Kp.of_set (p m nb : Nat) (sv : Value) (W : World) (i : Nat) (u : Value) : Kp p m nb sv W sv (W.setCell ⟨nb,i,none⟩ u) :=
 ⟨by simp,fun b hb => ⟨heap_setCell_other W ⟨nb,i,none⟩ b u hb.nn,⟨by simpa using hb.lt,hb.np,hb.nm,hb.nn,hb.ns⟩⟩⟩
end
structure WS (Wb W : World) (B p m : Nat) (sv : Value) (v : Nat) (ds : List Bd.Dec) (nb L : Nat) (xs : List Nat) (N : Pm.Nn) : Prop where
 ar : Ar W B p m sv v ds
 hB : Wb.heap.size ≤ B
 bl : Below Wb.heap.size Wb W
 nd : W.heap[nb]? = some (.cells (nodeCells xs) 39 (0,0))
 hnb : Wb.heap.size ≤ nb
 np : nb ≠ p
 nm : nb ≠ m
 ns : sv.ownBlock ≠ some nb
 len : xs.length = L
 says : ∀ i x,xs[i]? = some x → Nd v ds x (N i)
section
variable {Wb W W' : World} {B p m v nb L : Nat} {sv sv' : Value} {ds ds' : List Bd.Dec} {xs : List Nat} {N : Pm.Nn}
theorem WS.fr (h : WS Wb W B p m sv v ds nb L xs N) (hA : Ar W' B p m sv' v ds') (hk : Keep ds ds') (F : Bdd.Fr p m sv W sv' W') : WS Wb W' B p m sv' v ds' nb L xs N:=by
 have hlt:=Bdd.lt_of_get h.nd
 refine ⟨hA,h.hB,Bdd.below_of_fr h.bl (Nat.le_refl _) F (Nat.le_trans h.hB h.ar.hp) (Nat.le_trans h.hB h.ar.hm) fun k e => Nat.le_trans h.hB (h.ar.row.lt k e).1,(F.blk nb hlt h.np h.nm h.ns).trans h.nd,h.hnb,h.np,h.nm,fun e => ?_,h.len,fun i x hx => (h.says i x hx).keep hk⟩
 rcases F.own with h1 | h1
 ·exact h.ns (h1 ▸ e)
 ·have:=h1 nb e; omega
theorem WS.below (h : WS Wb W B p m sv v ds nb L xs N) (hb : Below W.heap.size W W') : WS Wb W' B p m sv v ds nb L xs N:=h.fr (h.ar.below hb) (Keep.refl _) (Bdd.Fr.of_below hb _ _ _)
theorem WS.put (h : WS Wb W B p m sv v ds nb L xs N) {i x : Nat} {A : Pm.Ss} (hx : Nd v ds x A) : WS Wb (W.setCell ⟨nb,i,none⟩ (.int .i64 (x : Int))) B p m sv v ds nb L (xs.set i x) (Pm.put N i A):=by
 have hb : (W.setCell ⟨nb,i,none⟩ (.int .i64 (x : Int))).heap[nb]? = some (.cells (nodeCells (xs.set i x)) 39 (0,0)):=by
  rw [← nodeCells_set]
  have:=h.nd
  simp [World.setCell,Array.getElem?_modify,this]
 have ho : ∀ k,k ≠ nb → (W.setCell ⟨nb,i,none⟩ (.int .i64 (x : Int))).heap[k]? = W.heap[k]?:=fun k hk => heap_setCell_other W ⟨nb,i,none⟩ k _ hk
 refine ⟨⟨(ho _ (Ne.symm h.np)).trans h.ar.blk,?_,(ho _ (Ne.symm h.nm)).trans h.ar.map,h.ar.hp,h.ar.hm,h.ar.v8,h.ar.wf,h.ar.few⟩,h.hB,h.bl.setCell (p:=⟨nb,i,none⟩) h.hnb _,hb,h.hnb,h.np,h.nm,h.ns,by rw [List.length_set]; exact h.len,fun j y hy => ?_⟩
 ·refine ⟨h.ar.row.1,?_⟩
  rcases h.ar.row.2 with h0 | ⟨g,cap,cur,hv,hg,hh,r⟩
  ·exact .inl h0
  ·exact .inr ⟨g,cap,cur,hv,hg,(ho g (fun e => h.ns (by rw [hv,e]; rfl))).trans hh,r⟩
 ·rw [List.getElem?_set] at hy
  unfold Pm.put
  split at hy
  ·rename_i e
   subst e
   split at hy
   ·injection hy with hy
    subst hy
    rw [if_pos rfl]
    exact hx
   ·cases hy
  ·rename_i e
   rw [if_neg (fun e' => e e'.symm)]
   exact h.says j y hy
end
def walkV (p : Nat) (nv lv : Value) (nb L : Nat) : Value:=.agg #[.pointer (some ⟨p,0,none⟩),nv,lv, .slice (some ⟨nb,0,none⟩) L L]
theorem without_any (B p m v nb L x y : Nat) (sv : Value) (ds : List Bd.Dec) (nad lad : Option Addr) (nn nc ll lc : Nat) (P Q : Pm.Ss) (w : World) (hA : Ar w B p m sv v ds) (hx : Nd v ds x P) (hy : Nd v ds y Q) (hfew : ds.length + 512 ≤ 100000000) :
  Calls Tryz.prog 91 #[walkV p (.slice nad nn nc) (.slice lad ll lc) nb L, .int .i64 (x : Int), .int .i64 (y : Int)] w fun e w' => ∃ r ds' sv',Nd v ds' r (fun s => P s && !Q s) ∧ Keep ds ds' ∧ ds'.length ≤ ds.length + 510 ∧ e = .returned (.int .i64 ((r : Nat) : Int)) ∧ Ar w' B p m sv' v ds' ∧ Bdd.Fr p m sv w sv' w':=by
 have hB1 : Below w.heap.size w (w.alloc (.cells #[.pointer (some ⟨p,0,none⟩), .slice nad nn nc, .slice lad ll lc, .slice (some ⟨nb,0,none⟩) L L] 76)):=(Below.refl _ w).alloc (Nat.le_refl _) _
 have hbx:=heap_alloc_new w (.cells #[.pointer (some ⟨p,0,none⟩), .slice nad nn nc, .slice lad ll lc, .slice (some ⟨nb,0,none⟩) L L] 76)
 have KN:=Lib.hid (Bdd.notN (hA.below hB1) hy (by omega))
 have hpl : p < w.heap.size:=Bdd.lt_of_get hA.blk
 have hml : m < w.heap.size:=Bdd.lt_of_get hA.map
 have hsl : ∀ k,sv.ownBlock = some k → k < w.heap.size:=fun k e => (hA.row.lt k e).2
 have HKEEP:=Lib.hid (fun (W' : World) (sv' : Value) (F : Bdd.Fr p m sv (w.alloc (.cells #[.pointer (some ⟨p,0,none⟩), .slice nad nn nc, .slice lad ll lc, .slice (some ⟨nb,0,none⟩) L L] 76)) sv' W') => show W'.heap[w.heap.size]? = _ from (F.blk w.heap.size (lt_of_heap hbx) (by omega) (by omega) (fun e => by have:=hsl _ e; omega)).trans hbx)
 have HF1:=Lib.hid (Bdd.Fr.of_below hB1 p m sv)
 have HX:=Lib.hid hx
 have HFW:=Lib.hid hfew
 have c0 : (w.alloc (.cells #[.pointer (some ⟨p,0,none⟩), .slice nad nn nc, .slice lad ll lc, .slice (some ⟨nb,0,none⟩) L L] 76)).cell? ⟨w.heap.size,0,none⟩ = some (.pointer (some ⟨p,0,none⟩)):=(Lib.cell_of_heap hbx 0).trans rfl
 unfold walkV
 clear hA hx hy hfew hB1 hbx hpl hml hsl
 go_enter Tryz.func91,Tryz.ntmps91
 go_wp2_with fail
 refine KN.out.mono ?_
 rintro e w2 ⟨r2,ds2,sv2,hN2,hk2,hl2,rfl,hA2,hF2⟩
 have hb2:=HKEEP.out _ sv2 hF2
 have g0 : w2.cell? ⟨w.heap.size,0,none⟩ = some (.pointer (some ⟨p,0,none⟩)):=(Lib.cell_of_heap hb2 0).trans rfl
 have KA:=Lib.hid (Bdd.andN hA2 (HX.out.keep hk2) hN2 (by have:=HFW.out; omega))
 have HK2:=Lib.hid hk2
 have HL2:=Lib.hid hl2
 have HF2:=Lib.hid (HF1.out.trans hF2)
 clear hN2 hk2 hl2 hA2 hF2 hb2 c0
 go_wp2_with fail
 refine KA.out.mono ?_
 rintro e w3 ⟨r3,ds3,sv3,hN3,hk3,hl3,rfl,hA3,hF3⟩
 have hfin : ∃ r ds' sv',Nd v ds' r (fun s => P s && !Q s) ∧ Keep ds ds' ∧ ds'.length ≤ ds.length + 510 ∧ (Ending.returned (.int .i64 ((r3 : Nat) : Int))) = .returned (.int .i64 ((r : Nat) : Int)) ∧ Ar w3 B p m sv' v ds' ∧ Bdd.Fr p m sv w sv' w3 :=
  ⟨r3,ds3,sv3,hN3,HK2.out.trans hk3,by have:=HL2.out; omega,rfl,hA3,HF2.out.trans hF3⟩
 have HFin:=Lib.hid hfin
 clear hN3 hk3 hl3 hA3 hF3 hfin
 go_wp2_with fail
 go_ret
 exact HFin.out
end
end Go.Proofs.YthekfpgegiffoaaGreatDoor
