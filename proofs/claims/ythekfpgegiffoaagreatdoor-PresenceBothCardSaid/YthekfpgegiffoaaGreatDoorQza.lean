/- Plain: files' lines stand side by side. (and what stands with it) -/
import Derived.Test.YthekfpgegiffoaaGreatDoorQv
import Derived.Test.YthekfpgegiffoaaGreatDoorQw
import Derived.Laws.AppendOwnNone
set_option linter.unusedSimpArgs false
set_option linter.unusedVariables false
set_option maxRecDepth 100000
namespace Go.Proofs.YthekfpgegiffoaaGreatDoor
section
namespace Pm
open Cnd.Ct Cnd.Ct.T
theorem walk_it (ns : List ByteArray) (ls : List Ln) (l e : Nat) (s r : T) (A L : Ss) (N : Nn) : walk ns ls true (cons l e s r) A L N = (match walk ns ls false s A A (put N e A) with | .error x => .error x | .ok N1 => walk ns ls true r A L N1):=rfl
theorem walk_br (ns : List ByteArray) (ls : List Ln) (l e : Nat) (s r : T) (A L : Ss) (N : Nn) : walk ns ls false (cons l e s r) A L N = (match cond ns (line ls l).kind (line ls l).toks L with | .error k => .error (l,k) | .ok Q => match walk ns ls true s Q Q (put N l A) with | .error x => .error x | .ok N1 => walk ns ls false r A (fun s => L s && !Q s) N1):=rfl
theorem walk_app (ns : List ByteArray) (ls : List Ln) (y : T) : ∀ (x : T) (A L : Ss) (N : Nn),walk ns ls true (x.app y) A L N = (match walk ns ls true x A L N with | .error e => .error e | .ok N1 => walk ns ls true y A L N1)
 | nil,_,_,_ => rfl
 | cons l e s r,A,L,N => by
  show walk ns ls true (cons l e s (r.app y)) A L N = _
  rw [walk_it,walk_it]
  cases walk ns ls false s A A (put N e A) with
  | error x => rfl
  | ok N1 => exact walk_app ns ls y r A L N1
theorem line_left {l m : List Ln} {i : Nat} (h : i < l.length) : line (l ++ m) i = line l i:=by
 unfold line
 rw [List.getD_eq_getElem?_getD,List.getD_eq_getElem?_getD,List.getElem?_append_left h]
theorem line_right (l m : List Ln) (i : Nat) : line (l ++ m) (l.length + i) = line m i:=by
 unfold line
 rw [List.getD_eq_getElem?_getD,List.getD_eq_getElem?_getD,List.getElem?_append_right (Nat.le_add_right _ _),Nat.add_sub_cancel_left]
theorem walk_left (ns : List ByteArray) (l m : List Ln) (t : T) : ∀ (b : Bool) (A L : Ss) (N : Nn),Wthn l.length b t → walk ns (l ++ m) b t A L N = walk ns l b t A L N:=by
 induction t with
 | nil => intro b A L N _; cases b <;> rfl
 | cons x e s r ihs ihr =>
  intro b A L N h
  cases b with
  | true =>
   unfold walk
   rw [ihs false A A _ h.2.1]
   cases walk ns l false s A A (put N e A) with
   | error y => rfl
   | ok N1 => exact ihr true A L N1 h.2.2
  | false =>
   unfold walk
   rw [line_left h.1]
   cases cond ns (line l x).kind (line l x).toks L with
   | error k => rfl
   | ok Q =>
    dsimp only
    rw [ihs true Q Q _ h.2.1]
    cases walk ns l true s Q Q (put N x A) with
    | error y => rfl
    | ok N1 => exact ihr false A _ N1 h.2.2
theorem walk_keeps (ns : List ByteArray) (l : List Ln) (t : T) : ∀ (b : Bool) (A L : Ss) (N N' : Nn) (n : Nat),Wthn n b t → walk ns l b t A L N = .ok N' → ∀ i,n ≤ i → N' i = N i:=by
 induction t with
 | nil => intro b A L N N' n _ h i _; cases b <;> (injection h with h; rw [h])
 | cons x e s r ihs ihr =>
  intro b A L N N' n hw h i hi
  cases b with
  | true =>
   unfold walk at h
   cases hs : walk ns l false s A A (put N e A) with
   | error y => rw [hs] at h; cases h
   | ok N1 =>
    rw [hs] at h
    have h1:=ihr true A L N1 N' n hw.2.2 h i hi
    have h2:=ihs false A A _ N1 n hw.2.1 hs i hi
    rw [h1,h2]
    unfold put
    rw [if_neg (by have:=hw.1; omega)]
  | false =>
   unfold walk at h
   cases hc : cond ns (line l x).kind (line l x).toks L with
   | error k => rw [hc] at h; cases h
   | ok Q =>
    rw [hc] at h
    dsimp only at h
    cases hs : walk ns l true s Q Q (put N x A) with
    | error y => rw [hs] at h; cases h
    | ok N1 =>
     rw [hs] at h
     have h1:=ihr false A _ N1 N' n hw.2.2 h i hi
     have h2:=ihs true Q Q _ N1 n hw.2.1 hs i hi
     rw [h1,h2]
     unfold put
     rw [if_neg (by have:=hw.1; omega)]
theorem put_shift {N1 N2 : Nn} {n : Nat} (h : ∀ j,N1 (n + j) = N2 j) (i : Nat) (A : Ss) : ∀ j,put N1 (i + n) A (n + j) = put N2 i A j:=fun j => by
 unfold put
 by_cases hj : j = i
 ·rw [if_pos hj,if_pos (by omega)]
 ·rw [if_neg hj,if_neg (by omega)]
  exact h j
theorem put_low (N1 : Nn) {n i k : Nat} (A : Ss) (hk : k < n) : put N1 (i + n) A k = N1 k:=by
 unfold put
 rw [if_neg (by omega)]
theorem walk_shift (ns : List ByteArray) (l m : List Ln) (t : T) : ∀ (b : Bool) (A L : Ss) (N1 N2 N2' : Nn),(∀ j,N1 (l.length + j) = N2 j) → walk ns m b t A L N2 = .ok N2' →
  ∃ N1',walk ns (l ++ m) b (shb l.length b t) A L N1 = .ok N1' ∧ (∀ j,N1' (l.length + j) = N2' j) ∧ ∀ k,k < l.length → N1' k = N1 k:=by
 induction t with
 | nil =>
  intro b A L N1 N2 N2' hN h
  cases b <;> (injection h with h; subst h; exact ⟨N1,rfl,hN,fun _ _ => rfl⟩)
 | cons x e s r ihs ihr =>
  intro b A L N1 N2 N2' hN h
  cases b with
  | true =>
   rw [walk_it] at h
   rw [show shb l.length true (cons x e s r) = cons (x + l.length) (e + l.length) (shb l.length false s) (shb l.length true r) from rfl,walk_it]
   cases hs : walk ns m false s A A (put N2 e A) with
   | error y => rw [hs] at h; cases h
   | ok M =>
    rw [hs] at h
    obtain ⟨M1,h1,h2,h3⟩:=ihs false A A _ _ _ (put_shift hN e A) hs
    obtain ⟨M2,h4,h5,h6⟩:=ihr true A L _ _ _ h2 h
    rw [h1]
    exact ⟨M2,h4,h5,fun k hk => by rw [h6 k hk,h3 k hk,put_low N1 A hk]⟩
  | false =>
   rw [walk_br] at h
   rw [show shb l.length false (cons x e s r) = cons (x + l.length) e (shb l.length true s) (shb l.length false r) from rfl,walk_br,Nat.add_comm x,line_right]
   cases hc : cond ns (line m x).kind (line m x).toks L with
   | error k => rw [hc] at h; cases h
   | ok Q =>
    rw [hc] at h
    dsimp only at h ⊢
    cases hs : walk ns m true s Q Q (put N2 x A) with
    | error y => rw [hs] at h; cases h
    | ok M =>
     rw [hs] at h
     rw [Nat.add_comm l.length x]
     obtain ⟨M1,h1,h2,h3⟩:=ihs true Q Q _ _ _ (put_shift hN x A) hs
     obtain ⟨M2,h4,h5,h6⟩:=ihr false A _ _ _ _ h2 h
     rw [h1]
     exact ⟨M2,h4,h5,fun k hk => by rw [h6 k hk,h3 k hk,put_low N1 A hk]⟩
theorem parse_zero {ks : List Int} (h : (parse ks).2.2 = 0) : ∃ t,go 0 ks (nil,[]) = .inr (t,[]) ∧ parse ks = (t,0,0) ∧ Wthn ks.length true t:=by
 obtain ⟨t,h1,h2⟩:=parse_ok h
 exact ⟨t,h1,h2,within_of ks t true 0 ks.length (Gparse h1)⟩
theorem lines_both (ns : List ByteArray) (l m : List Ln) (Nl Nm : Nn) (hl : lines ns l = .ok Nl) (hm : lines ns m = .ok Nm) : ∃ N,lines ns (l ++ m) = .ok N ∧ (∀ i,i < l.length → N i = Nl i) ∧ ∀ j,N (l.length + j) = Nm j:=by
 unfold lines at hl hm ⊢
 split at hl
 ·rename_i zl
  split at hm
  ·rename_i zm
   obtain ⟨x,g1,p1,w1⟩:=parse_zero zl
   rw [List.length_map] at w1
   obtain ⟨y,q1,q2⟩:=(parse_both (l.map (·.kind)) (m.map (·.kind)) x g1).1 zm
   rw [List.map_append,q2,if_pos rfl]
   rw [p1] at hl
   rw [q1] at hm
   dsimp only at hl hm ⊢
   rw [walk_app,walk_left ns l m x true all all zero w1,hl]
   dsimp only
   have hz : ∀ j,Nl (l.length + j) = zero j:=fun j => (walk_keeps ns l x true all all zero Nl l.length w1 hl _ (Nat.le_add_right _ _)).trans rfl
   rw [List.length_map]
   obtain ⟨N,h1,h2,h3⟩:=walk_shift ns l m y true all all Nl zero Nm hz hm
   exact ⟨N,h1,h3,h2⟩
  ·cases hm
 ·cases hl
end Pm
end
section
open Go.RowKit Go.Shelf
open Bdd (Ar Nd Keep TellsN)
section
variable {W W' : World} {B p m v : Nat} {sv' : Value} {ds : List Bd.Dec}
theorem fr_cell (hA : Ar W B p m (.slice none 0 0) v ds) (F : Bdd.Fr p m (.slice none 0 0) W sv' W') {g o : Nat} {x : Value} (hg : g ≠ p) (h : W.cell? ⟨g,o,none⟩ = some x) : W'.cell? ⟨g,o,none⟩ = some x:=by
 have hlt:=lt_of_cell h
 have hm : g ≠ m:=by
  rintro rfl
  have:=hA.map
  simp [World.cell?,this] at h
 exact (World.cell?_of_block (a:=⟨g,o,none⟩) (F.blk g hlt hg hm (fun e => by cases e))).trans h
theorem not_arena (hA : Ar W B p m (.slice none 0 0) v ds) {g o : Nat} {x : Value} (ho : 3 ≤ o) (h : W.cell? ⟨g,o,none⟩ = some x) : g ≠ p:=by
 rintro rfl
 rw [Lib.cell_of_heap hA.blk o] at h
 have:=(Array.getElem?_eq_some_iff.1 h).1
 simp at this
 omega
theorem Ks.fr (hA : Ar W B p m (.slice none 0 0) v ds) (F : Bdd.Fr p m (.slice none 0 0) W sv' W') {u : Value} {ts : List K} (h : Ks W u ts) : Ks W' u ts:=by
 obtain ⟨ad,cap,rfl,h1,h2,h3⟩:=h
 refine ⟨ad,cap,rfl,h1,h2,fun i t ht => ?_⟩
 obtain ⟨g,o,e,c0,c1,c2,c3,c4,c5⟩:=h3 i t ht
 have hg:=not_arena hA (by omega) c5
 exact ⟨g,o,e,fr_cell hA F hg c0,fr_cell hA F hg c1,fr_cell hA F hg c2,fr_cell hA F hg c3,fr_cell hA F hg c4,fr_cell hA F hg c5⟩
theorem Lns.fr (hA : Ar W B p m (.slice none 0 0) v ds) (F : Bdd.Fr p m (.slice none 0 0) W sv' W') {u : Value} {ls : List Ln} (h : Lns W u ls) : Lns W' u ls:=by
 obtain ⟨ad,cap,rfl,h1,h2,h3⟩:=h
 refine ⟨ad,cap,rfl,h1,h2,fun i x hx => ?_⟩
 obtain ⟨g,o,e,v0,c0,c1,c2,c3,hk⟩:=h3 i x hx
 have hg:=not_arena hA (by omega) c3
 exact ⟨g,o,e,v0,fr_cell hA F hg c0,fr_cell hA F hg c1,fr_cell hA F hg c2,fr_cell hA F hg c3,hk.fr hA F⟩
end
end
section
open Go.RowKit Go.Shelf
theorem lnCells_len : ∀ (vs : List Value) (ls : List Ln),vs.length = ls.length → (lnCells vs ls).length = ls.length * 4
 | [],[],_ => rfl
 | v :: vs,x :: ls,h => by
  have:=lnCells_len vs ls (by simpa using h)
  simp [lnCells,this]; omega
theorem Lns.vals {W : World} {v : Value} {ls : List Ln} (h : Lns W v ls) : ∃ ad cap vs,v = .slice ad ls.length cap ∧ SlK W vs ls ∧ (0 < ls.length → ∃ g o,ad = some ⟨g,o,none⟩ ∧ ∀ j u,(lnCells vs ls)[j]? = some u → W.cell? ⟨g,o + j,none⟩ = some u):=by
 obtain ⟨ad,cap,rfl,h1,h2,h3⟩:=h
 rcases Nat.eq_zero_or_pos ls.length with h0 | h0
 ·have : ls = []:=List.length_eq_zero_iff.1 h0
  subst this
  exact ⟨ad,cap,[],rfl,SlK.nil W,fun h => by omega⟩
 ·obtain ⟨g,o,rfl, -⟩:=h3 0 _ (List.getElem?_eq_getElem h0)
  obtain ⟨vs,hvs⟩ : ∃ vs : List Value,vs = (List.range ls.length).map fun i => (W.cell? ⟨g,o + i * 4 + 3,none⟩).getD (.slice none 0 0):=⟨_,rfl⟩
  have hlen : vs.length = ls.length:=by rw [hvs]; simp
  have hat : ∀ i x,ls[i]? = some x → ∃ w,vs[i]? = some w ∧ W.cell? ⟨g,o + i * 4,none⟩ = some (.int .i64 x.kind) ∧ W.cell? ⟨g,o + i * 4 + 1,none⟩ = some (.int .i64 x.first) ∧ W.cell? ⟨g,o + i * 4 + 2,none⟩ = some (.int .i64 x.n) ∧ W.cell? ⟨g,o + i * 4 + 3,none⟩ = some w ∧ Ks W w x.toks:=by
   intro i x hx
   obtain ⟨g',o',e,w,c0,c1,c2,c3,hk⟩:=h3 i x hx
   injection e with e
   injection e with e1 e2 _
   subst e1 e2
   refine ⟨w,?_,c0,c1,c2,c3,hk⟩
   have hi:=(List.getElem?_eq_some_iff.1 hx).1
   rw [hvs,List.getElem?_map,List.getElem?_range hi,Option.map_some,c3]
   rfl
  refine ⟨_,cap,vs,rfl,⟨hlen,fun i w x hw hx => ?_⟩,fun _ => ⟨g,o,rfl,fun j u hj => ?_⟩⟩
  ·obtain ⟨w',hw', -, -, -, -,hk⟩:=hat i x hx
   rw [hw] at hw'
   injection hw' with hw'
   subst hw'
   refine ⟨hk,?_⟩
   obtain ⟨ad,cap,rfl,_⟩:=hk
   rfl
  ·have hj4:=(List.getElem?_eq_some_iff.1 hj).1
   rw [lnCells_len vs ls hlen] at hj4
   have hi : j / 4 < ls.length:=by omega
   obtain ⟨w,hw,c0,c1,c2,c3, -⟩:=hat (j / 4) ls[j / 4] (List.getElem?_eq_getElem hi)
   have key:=lnCells_get vs ls (j / 4) w ls[j / 4] hw (List.getElem?_eq_getElem hi) (j % 4)
   have ej : j = j / 4 * 4 + j % 4:=by omega
   rw [ej] at hj ⊢
   rcases (show j % 4 = 0 ∨ j % 4 = 1 ∨ j % 4 = 2 ∨ j % 4 = 3 by omega) with hr | hr | hr | hr <;> rw [hr] at key hj ⊢ <;> (have:=(key _ rfl).symm.trans hj; injection this with this; subst this)
   ·exact c0
   ·exact c1
   ·exact c2
   ·exact c3
end
section
open Go.RowKit Go.Shelf
theorem lnCells_one : ∀ (vs : List Value) (ls : List Ln),(∀ v ∈ vs,v.oneCell' = true) → ∀ u ∈ lnCells vs ls,u.oneCell' = true
 | [],_,_,u,hu => by simp [lnCells] at hu
 | _ :: _,[],_,u,hu => by simp [lnCells] at hu
 | v :: vs,x :: ls,h,u,hu => by
  rw [lnCells] at hu
  rcases List.mem_append.1 hu with hu | hu
  ·simp only [List.mem_cons,List.not_mem_nil,or_false] at hu
   rcases hu with rfl | rfl | rfl | rfl
   ·rfl
   ·rfl
   ·rfl
   ·exact h _ (by simp)
  ·exact lnCells_one vs ls (fun y hy => h y (by simp [hy])) u hu
theorem SlK.app {W : World} {a b : List Value} {x y : List Ln} (h : SlK W a x) (k : SlK W b y) : SlK W (a ++ b) (x ++ y):=by
 refine ⟨by simp [h.1,k.1],fun i v t h1 h2 => ?_⟩
 rcases Nat.lt_or_ge i a.length with hi | hi
 ·rw [List.getElem?_append_left hi] at h1
  rw [List.getElem?_append_left (by rw [← h.1]; exact hi)] at h2
  exact h.2 i v t h1 h2
 ·rw [List.getElem?_append_right hi] at h1
  rw [List.getElem?_append_right (by rw [← h.1]; exact hi),← h.1] at h2
  exact k.2 _ v t h1 h2
theorem run_append_none_cap {P : Program} {w : World} (base : Nat) (t ty e : TypeId) (i : TypeInfo) (size c : Nat) (ht : P.underlying t = some (.slice e)) (hi : P.info? e = some i)
  (v : Value) (n : Nat) (xs : List Value) (hown : w.ownsRow base e size v n xs) : (Builtin.append_ #[t,t] ty #[v, .slice none 0 c]).run P w = .ok v w:=by
 rcases hown.2 with ⟨rfl,rfl⟩ | ⟨g,cap,cur,rfl,_,_,hnc,_⟩
 ·simp [Builtin.append_,run_underlying ht,sizeOf,typeInfo,hi,Builtin.lenOf,Builtin.firstCells]
 ·simp [Builtin.append_,run_underlying ht,sizeOf,typeInfo,hi,Builtin.lenOf,Builtin.firstCells,hnc,storeCells]
theorem wpList_append_none_cap {P : Program} {w : World} {ops : Array Oper} {rest : List Oper} {o : Oper} {a : Act} {Q : Exit → Act → World → Prop} (hgd : o.guard = none) (s x : Operand) (t : TypeId)
  (ho : o.op = .call { callee:=.builtin .append,args:=#[s,x],argTypes:=#[t,t] })
  (base : Nat) (e : TypeId) (i : TypeInfo) (size c : Nat) (ht : P.underlying t = some (.slice e)) (hi : P.info? e = some i)
  (v : Value) (n : Nat) (xs : List Value) (hs : a.eval s = v) (hown : w.ownsRow base e size v n xs) (hx : a.eval x = .slice none 0 c)
  (h : wpList P ops Q rest (a.put o.dst v) w) : wpList P ops Q (o :: rest) a w:=by
 refine wpList_plain hgd fun K hK => ?_
 have hrun:=run_append_none_cap (P:=P) (w:=w) base t o.type e i size c ht hi v n xs hown
 unfold Oper.wp
 simp [execOp,ho,resolve,invoke,builtin,hs,hx,hrun,Result.andThen]
 exact hK _ _ h
theorem wpList_append_lns {w w0 : World} (hb0 : Below w0.heap.size w0 w) {ops : Array Oper} {rest : List Oper} {o : Oper} {a : Act} {Q : Exit → Act → World → Prop} (hgd : o.guard = none) (s x : Operand)
  (ho : o.op = .call { callee:=.builtin .append,args:=#[s,x],argTypes:=#[32,32] }) (base : Nat) (v : Value) (vs : List Value) (ls : List Ln) (hs : a.eval s = v) (hown : w.ownsRow base 46 4 v ls.length (lnCells vs ls)) (hk : SlK w0 vs ls)
  (u : Value) (m : List Ln) (hx : a.eval x = u) (hu : Lns w0 u m) (hn : ls.length + m.length ≤ 100000) (hbase : base ≤ w.heap.size)
  (h : ∀ v' w' vs',w'.ownsRow base 46 4 v' (ls ++ m).length (lnCells vs' (ls ++ m)) → SlK w0 vs' (ls ++ m) → w.grownBy w' v.ownBlock → wpList Tryz.prog ops Q rest (a.put o.dst v') w') : wpList Tryz.prog ops Q (o :: rest) a w:=by
 obtain ⟨i0,hi,hz0,hz1,hz2⟩:=info_parts infoLn
 obtain ⟨ad,cap,us,rfl,hk2,hc⟩:=hu.vals
 cases ad with
 | none =>
  have h0 : m = []:=by
   rcases Nat.eq_zero_or_pos m.length with h0 | h0
   ·exact List.length_eq_zero_iff.1 h0
   ·obtain ⟨g,o',e, -⟩:=hc h0
    cases e
  subst h0
  refine wpList_append_none_cap hgd s x 32 ho base 46 i0 4 cap Tryz.underlying32 hi v ls.length (lnCells vs ls) hs hown hx (h v w vs ?_ ?_ ⟨rfl,rfl,rfl,Nat.le_refl _,fun _ _ _ => rfl⟩)
  ·rw [List.append_nil]; exact hown
  ·rw [List.append_nil]; exact hk
 | some ad =>
  refine wpList_append_own_at w hgd s x 32 ho base 46 i0 (.agg #[.int .i64 0, .int .i64 0, .int .i64 0, .slice none 0 0]) 4 48 Tryz.underlying32 hi hz0 hz1 hz2 rfl (by decide) v ls.length (lnCells vs ls) hs hown ad m.length cap (lnCells us m) hx (lnCells_len us m hk2.1) ?_ ?_ (by unfold maxLen; omega) (by omega) hbase ?_
  ·intro j q hj
   have hlt:=(List.getElem?_eq_some_iff.1 hj).1
   rw [lnCells_len us m hk2.1] at hlt
   obtain ⟨g,o',e,hcell⟩:=hc (by omega)
   injection e with e
   subst e
   rw [add_none]
   have hcj:=hcell j q hj
   exact (hb0.cell (p:=⟨_,_,none⟩) (lt_of_cell hcj)).trans hcj
  ·exact lnCells_one us m fun y hy => by
    obtain ⟨i,hi,rfl⟩:=List.getElem_of_mem hy
    exact (hk2.2 i _ _ (List.getElem?_eq_getElem hi) (List.getElem?_eq_getElem (by rw [← hk2.1]; exact hi))).2
  ·intro v' w' hr hg _ _
   refine h v' w' (vs ++ us) ?_ (hk.app hk2) hg
   rw [lnCells_append vs us ls m hk.1,List.length_append]
   exact hr
end
section
open Go.RowKit Go.Shelf
open Bdd (Ar Nd Keep TellsN)
section
variable {W W' : World} {B p m v : Nat} {sv sv' : Value} {ds : List Bd.Dec}
theorem nodes_fr (hA : Ar W B p m sv v ds) (F : Bdd.Fr p m sv W sv' W') {base : Nat} {o : Value} {n : Nat} {xs : List Value} (hp : p < base) (hm : m < base) (h : W.ownsRow base 39 1 o n xs) : W'.ownsRow base 39 1 o n xs:=by
 refine ⟨h.1,?_⟩
 rcases h.2 with h0 | ⟨g,cap,cur,hv,hb,hg,rest⟩
 ·exact .inl h0
 ·refine .inr ⟨g,cap,cur,hv,hb,?_,rest⟩
  refine (F.blk g (Bdd.lt_of_get hg) (by omega) (by omega) fun e => ?_).trans hg
  rcases hA.row.2 with ⟨h1,_⟩ | ⟨g2,cap2,cur2,h1,_,hg2,_⟩
  ·rw [h1] at e; cases e
  ·rw [h1] at e
   have e : g2 = g:=by injection e
   subst e
   rw [hg2] at hg
   have hne : ¬ (92 = 39):=by decide
   injection hg with hg
   injection hg with _ e _
   exact hne e
theorem nodes_cells {base : Nat} {ad : Option Addr} {n cap : Nat} {ys : List Nat} (h : W.ownsRow base 39 1 (.slice ad n cap) n (nodeL ys)) (hl : ys.length = n) (h0 : 0 < n) : ∃ g,ad = some ⟨g,0,none⟩ ∧ ∀ i y : Nat,ys[i]? = some y → W.cell? ⟨g,i,none⟩ = some (.int .i64 (y : Int)):=by
 rcases h.2 with ⟨_,h1⟩ | ⟨g,cap',cur,hv,_⟩
 ·omega
 ·injection hv with hv _ _
  refine ⟨g,hv,fun i y hy => ?_⟩
  have:=h.cells (g:=g) (by rw [hv]; rfl) i (.int .i64 (y : Int)) (by simp [nodeL,hy])
  rwa [add_none,Nat.zero_add] at this
end
def TrueB (w : World) (e : Ending) (w' : World) : Prop:=e = .returned (.bool true) ∧ Below w.heap.size w w'
theorem row_emptyL (w : World) : (w.alloc (.cells #[] 46)).ownsRow w.heap.size 46 4 (.slice (some ⟨w.heap.size,0,none⟩) 0 0) 0 (lnCells [] []):=World.ownsRow_made w #[] 0 (Nat.le_refl _) (Nat.zero_le _) rfl
theorem both_same {ns : List ByteArray} {A B : List Ln} {v : Nat} {ds1 ds2 ds3 : List Bd.Dec} {ys1 ys2 ys3 : List Nat} {N1 N2 N3 : Pm.Nn} (wf : Bd.WF v ds3) (h1 : Pm.lines ns A = .ok N1) (h2 : Pm.lines ns B = .ok N2) (h3 : Pm.lines ns (A ++ B) = .ok N3) (k1 : Keep ds1 ds3) (k2 : Keep ds2 ds3)
  (l1 : ys1.length = A.length) (n1 : ∀ i y : Nat,ys1[i]? = some y → Nd v ds1 y (N1 i)) (n2 : ∀ i y : Nat,ys2[i]? = some y → Nd v ds2 y (N2 i)) (n3 : ∀ i y : Nat,ys3[i]? = some y → Nd v ds3 y (N3 i)) (i y : Nat) (h : ys3[i]? = some y) :
  (∀ x,ys1[i]? = some x → x = y) ∧ (∀ x,ys1.length ≤ i → ys2[i - ys1.length]? = some x → x = y):=by
 obtain ⟨N,e,a,b⟩:=Pm.lines_both ns A B N1 N2 h1 h2
 have e3 : N = N3:=by rw [h3] at e; injection e with e; exact e.symm
 subst e3
 refine ⟨fun x hx => ?_,fun x hi hx => ?_⟩
 ·have hlt:=(List.getElem?_eq_some_iff.1 hx).1
  exact ((n1 i x hx).keep k1).one wf (n3 i y h) fun s _ => by rw [a i (by omega)]
 ·exact ((n2 _ x hx).keep k2).one wf (n3 i y h) fun s _ => by
   have:=b (i - ys1.length)
   rw [← l1,show ys1.length + (i - ys1.length) = i by omega] at this
   rw [this]
end
end Go.Proofs.YthekfpgegiffoaaGreatDoor
