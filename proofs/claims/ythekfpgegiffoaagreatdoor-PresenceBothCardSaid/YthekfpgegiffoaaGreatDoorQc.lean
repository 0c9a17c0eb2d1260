/- What is proved: what sign, closes, begins and the library's Clone and IndexFunc tell of any tokens. (and what stands with it) -/
import Derived.Test.YthekfpgegiffoaaGreatDoorQb
import Derived.Lib.SliceRun
import Derived.Maps.AppendAt
import Derived.Deep.RegionHeld
import Derived.Deep.AppendLies
import Derived.Test.YthekfpgegiffoaaGreatDoorQa
set_option linter.unusedSimpArgs false
set_option linter.unusedVariables false
set_option maxHeartbeats 16000000
set_option maxRecDepth 100000
namespace Go.Proofs.YthekfpgegiffoaaGreatDoor
section
open Go.RowKit Go.Shelf
theorem dsign_any (t : K) (s : ByteArray) (w : World) : Calls Tryz.prog 95 #[kAgg t, .string s] w fun e w' => e = .returned (.bool (Dx.isSign t s)) ∧ Below w.heap.size w w':=by
 obtain ⟨k,tx,f,a,b,bl⟩:=t
 dsimp only [kAgg]
 by_cases h1 : k = 5
 ·subst h1
  by_cases h2 : tx = s
  ·have t2 : (tx.toList == s.toList) = true:=by rw [ba_beq]; simpa using h2
   have e : Dx.isSign ⟨5,tx,f,a,b,bl⟩ s = true:=by simp [Dx.isSign,h2]
   rw [e]
   clear h2 e
   go_enter Tryz.func95,Tryz.ntmps95
   go_wp2_with fail
   go_ret
   exact ⟨rfl,(Below.refl _ _).alloc (Nat.le_refl _) _⟩
  ·have t2 : (tx.toList == s.toList) = false:=by rw [ba_beq]; simpa using h2
   have e : Dx.isSign ⟨5,tx,f,a,b,bl⟩ s = false:=by simp [Dx.isSign,h2]
   rw [e]
   clear h2 e
   go_enter Tryz.func95,Tryz.ntmps95
   go_wp2_with fail
   go_ret
   exact ⟨rfl,(Below.refl _ _).alloc (Nat.le_refl _) _⟩
 ·have t1 : (k == 5) = false:=by simpa using h1
  have e : Dx.isSign ⟨k,tx,f,a,b,bl⟩ s = false:=by simp [Dx.isSign,h1]
  rw [e]
  clear h1 e
  go_enter Tryz.func95,Tryz.ntmps95
  go_wp2_with fail
  go_ret
  exact ⟨rfl,(Below.refl _ _).alloc (Nat.le_refl _) _⟩
theorem eql_toks (w : World) (a : Option Addr) (n c n' c' : Nat) : (binOp .eql 44 (.slice a n c) (.slice none n' c')).run Tryz.prog w = .ok (.bool a.isNone) w:=Lib.run_eql_slice_nil w _ _ a n c n' c' Tryz.underlying44
theorem clone_any (v : Value) (ts : List K) (w : World) (hv : Ks w v ts) (hl : ts.length * 56 ≤ 140737488355328) :
  Calls Tryz.prog 56 #[v] w fun e w' => ∃ u,e = .returned u ∧ w'.ownsRow w.heap.size 63 6 u ts.length (ksCells ts) ∧ Below w.heap.size w w':=by
 obtain ⟨i0,hi,hz0,hz1,hz2⟩:=info_parts infoTok
 obtain ⟨ad,cap,rfl,hc1,hc2,hc3⟩:=id hv
 cases ad with
 | none =>
  have h0 : ts = []:=by
   cases ts with
   | nil => rfl
   | cons t r => obtain ⟨g,o,e,_⟩:=hc3 0 t rfl; cases e
  subst h0
  have q:=eql_toks
  clear hv hc3
  go_enter Tryz.func56,Tryz.ntmps56
  go_wp2_with fail
  go_ret
  exact ⟨_,rfl,World.ownsRow_nil _ _ _ _,Below.refl _ _⟩
 | some a =>
  have q:=eql_toks
  have hrow : ∀ j u,(ksCells ts)[j]? = some u → w.cell? (a.add j) = some u:=by
   intro j u hj
   have hlt:=(List.getElem?_eq_some_iff.1 hj).1
   rw [ksCells_length] at hlt
   obtain ⟨g,o,e,_⟩:=hc3 0 _ (List.getElem?_eq_getElem (by omega))
   injection e with e
   subst e
   rw [add_none]
   exact hv.row j u hj
  have HR:=Lib.hid hrow
  obtain ⟨n,hn⟩ : ∃ n,n = ts.length:=⟨_,rfl⟩
  rw [← hn] at hl hc1 ⊢
  have Hn:=Lib.hid hn
  clear hv hc3 hrow hn
  go_enter Tryz.func56,Tryz.ntmps56
  go_wp2_with (at_builtin; refine wpList_append_own _ rfl _ _ 44 rfl w.heap.size 63 i0 _ 6 56 Tryz.underlying44 hi hz0 hz1 hz2 rfl (by decide) _ _ _ rfl (World.ownsRow_made w #[] 0 (Nat.le_refl _) (Nat.zero_le _) rfl) a n cap (ksCells ts) rfl ?qc1 ?qc2 ?qc3 ?qc4 ?qc5 ?qc6 ?_)
  case qc1 => rw [ksCells_length,Hn.out]
  case qc2 => intro j u hj; exact Lib.cell?_alloc_some _ (HR.out j u hj)
  case qc3 => exact ksCells_one ts
  case qc4 => unfold maxLen; omega
  case qc5 => omega
  case qc6 => simp
  intro v' w1 hown hgrow hnil
  go_wp2_with fail
  go_ret
  exact ⟨v',rfl,hown,((Below.refl _ w).alloc (Nat.le_refl _) _).grown hgrow (by simp) (by intro k hk; simp [Value.ownBlock] at hk; omega)⟩
theorem begins_any (v : Value) (ts : List K) (w : World) (hv : Ks w v ts) (hl : ts.length * 56 ≤ 140737488355328) (hG : Glob w) :
  Calls Tryz.prog 55 #[v] w fun e w' => e = .returned (.tuple #[.int .i64 (Dx.begins ts).1, .int .i64 (Dx.begins ts).2]) ∧ Below w.heap.size w w':=by
 obtain ⟨ad,cap,rfl,hc1,hc2,hc3⟩:=id hv
 have HG:=Lib.hid hG
 clear hG
 match ts,hv,hl with
 | [],hv,hl =>
  clear hv hc3
  go_enter Tryz.func55,Tryz.ntmps55
  go_wp2_with fail
  go_ret2
  exact ⟨rfl,Below.refl _ _⟩
 | t :: r,hv,hl =>
  obtain ⟨g,o,rfl, -, -, -,hg,hcell⟩:=hv.cells (by simp)
  have c:=hcell 0 t rfl
  have key:=dsign_any t ⟨#[35]⟩
  cases hs : Dx.isSign t ⟨#[35]⟩ with
  | false =>
   rw [Dx.begins_no t r hs]
   rw [hs] at key
   obtain ⟨k,tx,f,a,b,bl⟩:=t
   obtain ⟨c0,c1,c2,c3,c4,c5⟩:=c
   dsimp only [kAgg] at key c0 c1 c2 c3 c4 c5
   simp only [Nat.zero_mul,Nat.add_zero] at c0 c1 c2 c3 c4 c5
   simp only [List.length_cons] at hl hc1 ⊢
   obtain ⟨n,hn⟩ : ∃ n,n = r.length:=⟨_,rfl⟩
   rw [← hn] at hl hc1 ⊢
   clear hv hc3 hs hcell hn
   go_enter Tryz.func55,Tryz.ntmps55
   go_wp2_with fail
   refine (key _).mono ?_
   rintro e w' ⟨rfl,hB⟩
   go_wp2_with fail
   go_ret2
   exact ⟨rfl,hB⟩
  | true =>
   rw [hs] at key
   cases r with
   | nil =>
    rw [Dx.begins_one t hs]
    obtain ⟨k,tx,f,a,b,bl⟩:=t
    obtain ⟨c0,c1,c2,c3,c4,c5⟩:=c
    dsimp only [kAgg] at key c0 c1 c2 c3 c4 c5
    simp only [Nat.zero_mul,Nat.add_zero] at c0 c1 c2 c3 c4 c5
    simp only [List.length_cons,List.length_nil] at hl hc1 ⊢
    clear hv hc3 hs hcell
    go_enter Tryz.func55,Tryz.ntmps55
    go_wp2_with fail
    refine (key _).mono ?_
    rintro e w' ⟨rfl,hB⟩
    go_wp2_with fail
    go_ret2
    exact ⟨rfl,hB⟩
   | cons u r =>
    have d:=hcell 1 u rfl
    rw [Dx.begins_two t u r hs]
    obtain ⟨q,hq⟩ : ∃ q,q = Dx.kindOf u.text:=⟨_,rfl⟩
    rw [← hq]
    have HQ:=Lib.hid hq
    obtain ⟨k,tx,f,a,b,bl⟩:=t
    obtain ⟨c0,c1,c2,c3,c4,c5⟩:=c
    obtain ⟨uk,utx,uf,ua,ub,ubl⟩:=u
    obtain ⟨d0,d1, -, -, -, -⟩:=d
    dsimp only [kAgg] at key c0 c1 c2 c3 c4 c5 d0 d1 HQ ⊢
    simp only [Nat.zero_mul,Nat.add_zero,Nat.reduceMul] at c0 c1 c2 c3 c4 c5 d0 d1
    simp only [List.length_cons] at hl hc1 ⊢
    obtain ⟨n,hn⟩ : ∃ n,n = r.length:=⟨_,rfl⟩
    rw [← hn] at hl hc1 ⊢
    clear hv hc3 hs hcell hn hq
    have z1 : ((n : Int) + 1 + 1 == 1) = false:=by simp; omega
    have z2 : ((n : Int) + 1 + 1 == 0) = false:=by simp; omega
    by_cases hk : uk = 1
    ·subst hk
     by_cases hq0 : q = 0
     ·subst hq0
      rw [if_neg (by simp)]
      go_enter Tryz.func55,Tryz.ntmps55
      go_wp2_with fail
      refine (key _).mono ?_
      rintro e w' ⟨rfl,hB⟩
      have d0':=(hB.cell (p:=⟨g,o + 6,none⟩) hg).trans d0
      have d1':=(hB.cell (p:=⟨g,o + 6 + 1,none⟩) hg).trans d1
      clear c0 c1 c2 c3 c4 c5 d0 d1
      go_wp2_with fail
      refine (kind_any utx _ (HG.out.later hB)).mono ?_
      rintro e w'' ⟨rfl,rfl⟩
      rw [← HQ.out]
      go_wp2_with fail
      go_ret2
      exact ⟨rfl,hB⟩
     ·rw [if_pos ⟨rfl,hq0⟩]
      have t3 : (q != 0) = true:=by simpa using hq0
      go_enter Tryz.func55,Tryz.ntmps55
      go_wp2_with fail
      refine (key _).mono ?_
      rintro e w' ⟨rfl,hB⟩
      have d0':=(hB.cell (p:=⟨g,o + 6,none⟩) hg).trans d0
      have d1':=(hB.cell (p:=⟨g,o + 6 + 1,none⟩) hg).trans d1
      clear c0 c1 c2 c3 c4 c5 d0 d1
      go_wp2_with fail
      refine (kind_any utx _ (HG.out.later hB)).mono ?_
      rintro e w'' ⟨rfl,rfl⟩
      rw [← HQ.out]
      go_wp2_with fail
      go_ret2
      exact ⟨rfl,hB⟩
    ·rw [if_neg (fun h => hk h.1)]
     have t3 : (uk == 1) = false:=by simpa using hk
     go_enter Tryz.func55,Tryz.ntmps55
     go_wp2_with fail
     refine (key _).mono ?_
     rintro e w' ⟨rfl,hB⟩
     have d0':=(hB.cell (p:=⟨g,o + 6,none⟩) hg).trans d0
     clear c0 c1 c2 c3 c4 c5 d0 d1
     go_wp2_with fail
     go_ret2
     exact ⟨rfl,hB⟩
end
section
open Go.RowKit Go.Shelf
attribute [local go_sem] Oper.semAt_some
def KeepS (b m : Nat) (W W' : World) : Prop:=W'.heap[b]? = W.heap[b]? ∧ ∀ k,k < m → W'.heap[k]? = W.heap[k]?
theorem KeepS.trans {b m : Nat} {A B C : World} (h : KeepS b m A B) (k : KeepS b m B C) : KeepS b m A C:=⟨k.1.trans h.1,fun i hi => (k.2 i hi).trans (h.2 i hi)⟩
theorem KeepS.cell {b m : Nat} {W W' : World} (h : KeepS b m W W') {v : Value} (hc : W.cell? ⟨b,0,none⟩ = some v) : W'.cell? ⟨b,0,none⟩ = some v :=
 (World.cell?_of_block (a:=⟨b,0,none⟩) h.1).trans hc
theorem KeepS.put {b m : Nat} {w : World} (hb : b < w.heap.size) (hm : m ≤ w.heap.size) (W : World) (l : Nat) (o o' : Obj) (hl : w.heap.size ≤ l) (_ : W.heap[l]? = some o) (_ : o.isCells = false) (_ : o.isWalk = false) : KeepS b m W (W.putObj l o') :=
 ⟨World.putObj_heap_other (by omega),fun _ _ => World.putObj_heap_other (by omega)⟩
abbrev Cut (ts : List K):={ c : Nat × Nat // c.1 < ts.length ∧ c.1 + c.2 ≤ ts.length }
theorem grown_new (W : World) (o : Obj) : W.grownBy (W.alloc o) none:=World.grownBy_alloc W o none
def Under (v : Value) (m : Nat) : Prop:=∀ g o n cap,v = .slice (some ⟨g,o,none⟩) n cap → g < m
theorem places1_in (n : Nat) (hn : 1 ≤ n) (l Bn m : Nat) (v : Value) (ts : List K) (hl : ts.length * 56 ≤ 140737488355328) (hu : 0 < ts.length → Under v m) (J Jx : List (Cut ts) → World → Prop)
  (hY : ∀ pre (x : Cut ts) W,J pre W → pre.length < (Dx.cuts 0 0 ts).length → YieldAt Fence.wide (n - 1) Tryz.prog l #[.int .i64 x.1.1, .int .i64 x.1.2] W fun e W' =>
   (e = .returned (.bool true) ∧ J (pre ++ [x]) W' ∧ KeepS Bn m W W') ∨ (e = .returned (.bool false) ∧ Jx (pre ++ [x]) W'))
  (W : World) (hJ : AbidesFrom W.heap.size J) (hBn : W.cell? ⟨Bn,0,none⟩ = some v) (hv : Ks W v ts) (h0 : J [] W) :
  CallsIn Fence.wide n Tryz.prog 94 #[.func (.yield l) #[] #[], .pointer (some ⟨Bn,0,none⟩)] W fun e W' => (∃ v,e = .returned v) ∧
   ((∃ ys,ys.map Subtype.val = Dx.cuts 0 0 ts ∧ J ys W') ∨ (∃ pre,pre.map Subtype.val <+: Dx.cuts 0 0 ts ∧ Jx pre W')):=by
 obtain ⟨ad,cap,rfl,hc1,hc2, -⟩:=id hv
 unfold maxLen at hc2
 rcases Nat.eq_zero_or_pos ts.length with hz | hpos
 ·have hts : ts = []:=List.length_eq_zero_iff.1 hz
  subst hts
  refine callsIn_of_wp Tryz.func94 rfl trivial ?_ rfl
  simp only [Tryz.ntmps94,List.size_toArray,List.length_cons,List.length_nil,Nat.reduceAdd,Nat.reduceSub,Array.replicate_succ,Array.replicate_zero,List.push_toArray,List.append_toArray,List.nil_append,List.cons_append]
  clear hv hu
  gi_wp2
  gi_loopw [3,8] (fun f k wr => f = .int .i64 0 ∧ k = .int .i64 0 ∧ wr.cell? ⟨Bn,0,none⟩ = some (.slice ad 0 cap) ∧ J [] wr) (fun _ _ _ => 0)
  case atStart => exact ⟨rfl,rfl,hBn,h0⟩
  case round =>
   obtain ⟨rfl,rfl,hc,hj⟩:=hrel
   gi_wp2_with fail
   go_end0
   exact ⟨⟨_,rfl⟩, .inl ⟨[],rfl,hj⟩⟩
 ·obtain ⟨g,o,rfl, -, -, -, -,hcell⟩:=hv.cells hpos
  have hg : g < m:=hu hpos g o _ _ rfl
  refine callsIn_of_wp Tryz.func94 rfl trivial ?_ rfl
  simp only [Tryz.ntmps94,List.size_toArray,List.length_cons,List.length_nil,Nat.reduceAdd,Nat.reduceSub,Array.replicate_succ,Array.replicate_zero,List.push_toArray,List.append_toArray,List.nil_append,List.cons_append]
  obtain ⟨N,hN⟩ : ∃ N,N = ts.length:=⟨_,rfl⟩
  rw [← hN] at hl hc1 hpos hBn
  have HN:=Lib.hid hN
  have HC:=Lib.hid hcell
  clear hN hv hu hcell
  gi_wp2
  gi_loopw [3,8] (fun f3 f8 wr => ∃ (f k : Nat) (pre : List (Cut ts)),f3 = .int .i64 f ∧ f8 = .int .i64 k ∧ Dx.At ts f k (pre.map Subtype.val) ∧ wr.cell? ⟨Bn,0,none⟩ = some (.slice (some ⟨g,o,none⟩) N cap) ∧ wr.heap[g]? = W.heap[g]? ∧ J pre wr)
   (fun _ p _ => N - (intOf p).toNat)
  case atStart => exact ⟨0,0,[],rfl,rfl,Dx.at_start ts,hBn,rfl,h0⟩
  case round =>
   obtain ⟨f,k,pre,rfl,rfl,hat,hc,hgb,hj⟩:=hrel
   have hfk:=hat.1
   have hkN:=hat.2.1
   rw [← HN.out] at hkN
   by_cases hlt : k < N
   ·obtain ⟨t,ht⟩ : ∃ t,ts[k]? = some t:=⟨_,List.getElem?_eq_getElem (by rw [← HN.out]; exact hlt)⟩
    have hk0:=(HC.out k t ht).kept hgb
    obtain ⟨kd,tx,fl,fr,en,bl⟩:=t
    obtain ⟨c0,c1,c2,c3,c4,c5⟩:=hk0
    dsimp only at c0 c1 c2 c3 c4 c5
    have hja:=hJ pre wr _ none hj (grown_new wr (.cells #[.int .i64 kd, .string tx, .int .i64 fl, .int .i64 fr, .int .i64 en, .bool bl] 63)) (fun r e => by cases e)
    have hgs : g < wr.heap.size:=lt_of_cell c0
    by_cases hkd : kd = 7
    ·subst hkd
     obtain ⟨hat2,hpre,hlen⟩:=Dx.at_cut hat ht rfl
     have hok : f < ts.length ∧ f + (k - f) ≤ ts.length:=by rw [← HN.out]; omega
     rw [List.length_map] at hlen
     obtain ⟨fn,tmps,assign,body,hy,hR⟩:=hY pre ⟨(f,k - f),hok⟩ _ hja hlen
     have ek : (((f,k - f) : Nat × Nat).2 : Int) = (k : Int) - f:=by show ((k - f : Nat) : Int) = _; omega
     dsimp only at hy
     rw [show ((k - f : Nat) : Int) = (k : Int) - f by omega] at hy
     have HA:=Lib.hid hat2
     have HPre:=Lib.hid hpre
     clear hat2 hpre ek hat
     gi_wp2_with fail
     refine hR.mono ?_
     rintro e W3 (⟨rfl,hJ3,hk3⟩ | ⟨rfl,hJx3⟩)
     ·have hc3:=hk3.cell (Lib.cell?_alloc_some (.cells #[.int .i64 7, .string tx, .int .i64 fl, .int .i64 fr, .int .i64 en, .bool bl] 63) hc)
      have hg3:=hk3.2 g hg
      gi_wp2_with fail
      go_roundw
      case rel => exact ⟨k + 1,k + 1,pre ++ [⟨(f,k - f),hok⟩],by go_num,by go_num,by rw [List.map_append]; exact HA.out,hc3,hg3.trans ((Below.heap_alloc _ _ _ hgs).trans hgb),hJ3⟩
      case measure => simp [intOf]; omega
     ·gi_wp2_with fail
      refine bodyPost_ret (results_none rfl _ _ _) rfl ?_
      exact ⟨⟨_,rfl⟩, .inr ⟨_,by rw [List.map_append]; exact HPre.out,hJx3⟩⟩
    ·have hat2:=Dx.at_skip hat ht hkd
     have t1 : (kd != 7) = true:=by simpa using hkd
     have HA:=Lib.hid hat2
     clear hat2 hat
     gi_wp2_with fail
     go_roundw
     case rel => exact ⟨f,k + 1,pre,rfl,by go_num,HA.out,Lib.cell?_alloc_some _ hc,(Below.heap_alloc _ _ _ hgs).trans hgb,hja⟩
     case measure => simp [intOf]; omega
   ·obtain ⟨he1,he2⟩:=Dx.at_endN hat HN.out (by omega)
    have H1:=Lib.hid he1
    have H2:=Lib.hid he2
    clear he1 he2
    by_cases hf : f < N
    ·obtain ⟨hcu,hlen⟩:=H1.out hf
     rw [List.length_map] at hlen
     have hok : f < ts.length ∧ f + (N - f) ≤ ts.length:=by rw [← HN.out]; omega
     obtain ⟨fn,tmps,assign,body,hy,hR⟩:=hY pre ⟨(f,N - f),hok⟩ _ hj hlen
     dsimp only at hy
     rw [show ((N - f : Nat) : Int) = (N : Int) - f by omega] at hy
     have HCu:=Lib.hid hcu
     clear hcu hat
     gi_wp2_with fail
     refine hR.mono ?_
     rintro e W3 (⟨rfl,hJ3,hk3⟩ | ⟨rfl,hJx3⟩)
     ·gi_wp2_with fail
      go_end0
      exact ⟨⟨_,rfl⟩, .inl ⟨pre ++ [⟨(f,N - f),hok⟩],by rw [List.map_append,HCu.out]; rfl,hJ3⟩⟩
     ·gi_wp2_with fail
      go_end0
      exact ⟨⟨_,rfl⟩, .inr ⟨pre ++ [⟨(f,N - f),hok⟩],by rw [List.map_append,HCu.out]; exact List.prefix_refl _,hJx3⟩⟩
    ·clear hat
     gi_wp2_with fail
     go_end0
     exact ⟨⟨_,rfl⟩, .inl ⟨pre,(H2.out (by omega)).symm,hj⟩⟩
theorem places_in (n : Nat) (ad : Option Addr) (m cap : Nat) (w : World) :
  CallsIn Fence.wide n Tryz.prog 54 #[.slice ad m cap] w fun e w' => e = .returned (.func (.func 94) #[] #[.pointer (some ⟨w.heap.size,0,none⟩)]) ∧ w' = w.alloc (.cells #[.slice ad m cap] 44):=by
 refine callsIn_of_wp Tryz.func54 rfl trivial ?_ rfl
 simp only [Tryz.ntmps54,List.size_toArray,List.length_cons,List.length_nil,Nat.reduceAdd,Nat.reduceSub,Array.replicate_succ,Array.replicate_zero,List.push_toArray,List.append_toArray,List.nil_append,List.cons_append]
 gi_wp2
 go_ret
 exact ⟨rfl,rfl⟩
theorem places_stops (n : Nat) (hn : 1 ≤ n) (Bn m : Nat) (v : Value) (ts : List K) (hl : ts.length * 56 ≤ 140737488355328) (hu : 0 < ts.length → Under v m) (w : World) (hBn : Bn < w.heap.size)
  (hc : w.cell? ⟨Bn,0,none⟩ = some v) (hv : Ks w v ts) :
  SeqStopsK Fence.wide n Tryz.prog 94 #[.pointer (some ⟨Bn,0,none⟩)] (fun x : Cut ts => #[.int .i64 x.1.1, .int .i64 x.1.2]) (KeepS Bn m) (fun ys => ys.map Subtype.val = Dx.cuts 0 0 ts) (fun pre => pre.map Subtype.val <+: Dx.cuts 0 0 ts) (Dx.cuts 0 0 ts).length w:=fun l J Jx W hW hJ _ hY h0 =>
 places1_in n hn l Bn m v ts hl hu J Jx hY W hJ ((hW.cell (p:=⟨Bn,0,none⟩) hBn).trans hc) (hv.below hW) h0
end
section
open Go.RowKit Go.Shelf
attribute [local go_sem] Oper.semAt_some
theorem op_round {P : Program} {n l : Nat} {o : Oper} {a : Act} {w : World} {K : Act → World → Prop} {Q : Exit → Act → World → Prop} (hnd : ∀ c,o.op ≠ .defer c) (h : o.wp P a w K Q) :
  o.wpIn (Fence.wide.inRound l) n P a w K Q:=by
 unfold Oper.wp at h
 unfold Oper.wpIn
 refine ⟨fun _ _ => trivial,?_⟩
 rw [Oper.semAt_plain _ _ _ hnd]
 generalize (execOp a.eval o).run P w = r at *
 cases r with
 | ok x w' =>
  cases x <;> simp only [Oper.upon,Oper.uponIn] at h ⊢ <;>
   first
    | exact h
    | exact ⟨fun e => by simp [Fence.wide] at e,CallsIn.inRound l (callsIn_wide.2 h)⟩
    | exact ⟨fun e => by simp [Fence.wide] at e,fun c cs _ => let ⟨v,w',r,s⟩:=h c cs; ⟨v,w',r,stepsIn_wide.2 s⟩⟩
 | halt x w' => cases x <;> simp only [Oper.upon,Oper.uponIn] at h ⊢ <;> exact h
theorem any_round {P : Program} {n l : Nat} {md : Region.Mode} {ops : Array Oper} {Q : Exit → Act → World → Prop} (hnd : ∀ (i : Nat) (o : Oper),ops[i]? = some o → ∀ c,o.op ≠ .defer c) (hno : ¬ LetsOut Q) :
  ∀ (fuel : Nat) (listed : Array Bool) (a : Act) (w : World),wpAny P md ops Q fuel listed a w → wpAnyIn (Fence.wide.inRound l) n P md ops Q fuel listed a w:=by
 intro fuel
 induction fuel with
 | zero => intro listed a w h; exact h
 | succ fuel ih =>
  intro listed a w h
  refine ⟨h.1,fun i hi => ?_⟩
  have hk:=h.2 i hi
  unfold wpOp at hk
  unfold wpOpIn
  cases ho : ops[i]? with
  | none => rw [ho] at hk; exact ih _ _ _ hk
  | some o =>
   rw [ho] at hk
   dsimp only at hk ⊢
   split
   ·rename_i hw
    rw [if_pos hw] at hk
    rcases hk with hk | ⟨_,hk⟩
    ·exact Oper.wpIn_mono (fun a w => ih _ a w) (op_round (hnd i o ho) hk)
    ·exact absurd hk hno
   ·rename_i hw
    rw [if_neg hw] at hk
    exact ⟨fun _ _ => trivial,ih _ _ _ hk⟩
def noDefer (o : Oper) : Bool:=match o.op with
 | .defer _ => false
 | _ => true
theorem noDefers {ops : Array Oper} (h : ops.toList.all noDefer = true) : ∀ (i : Nat) (o : Oper),ops[i]? = some o → ∀ c,o.op ≠ .defer c:=by
 intro i o ho c e
 have:=List.all_eq_true.1 h o (List.mem_of_getElem? (by rw [Array.getElem?_toList]; exact ho))
 unfold noDefer at this
 rw [e] at this
 cases this
theorem region_round {P : Program} {n l id : Nat} {ops : Array Oper} {Q : Exit → Act → World → Prop} {a : Act} {w : World} (hm : P.follows .mixedOrders = true) (hnd : ops.toList.all noDefer = true) (hno : ¬ LetsOut Q)
  (h : wpAny P .any ops Q ops.size (Array.replicate ops.size false) a w.drew) : (Code.region id ops true).wpIn (Fence.wide.inRound l) n P Q a w :=
 wpIn_region_any hm (any_round (noDefers hnd) hno _ _ _ _ h)
theorem row_base {W : World} {base base' e sz n : Nat} {v : Value} {cs : List Value} (h : W.ownsRow base e sz v n cs) (hb : base' ≤ base) : W.ownsRow base' e sz v n cs:=by
 refine ⟨h.1,?_⟩
 rcases h.2 with h' | ⟨g,cap,cur,h',h1,h2,h3⟩
 ·exact .inl h'
 ·exact .inr ⟨g,cap,cur,h',Nat.le_trans hb h1,h2,h3⟩
def SlO (b : Nat) (W : World) (vs : List Value) (ls : List Ln) : Prop:=vs.length = ls.length ∧ ∀ (i : Nat) (v : Value) (x : Ln),vs[i]? = some v → ls[i]? = some x → W.ownsRow b 63 6 v x.toks.length (ksCells x.toks)
theorem SlO.nil (b : Nat) (W : World) : SlO b W [] []:=⟨rfl,fun i v x h => by simp at h⟩
theorem SlO.below {b : Nat} {W W' : World} {vs : List Value} {ls : List Ln} (h : SlO b W vs ls) (hb : Below W.heap.size W W') : SlO b W' vs ls :=
 ⟨h.1,fun i v x h1 h2 => row_below (h.2 i v x h1 h2) hb⟩
theorem SlO.kept {b : Nat} {W W' : World} {row : Option Nat} {vs : List Value} {ls : List Ln} (h : SlO b W vs ls) (hg : W.grownBy W' row) (hr : ∀ r,row = some r → ∀ cur,W.heap[r]? ≠ some (.cells cur 63 (0,0))) : SlO b W' vs ls:=by
 refine ⟨h.1,fun i v x h1 h2 => ?_⟩
 have hw:=h.2 i v x h1 h2
 refine hw.kept hg ?_
 rcases hw.2 with ⟨rfl,_⟩ | ⟨g,cap,cur,rfl,_,hgb,_⟩
 ·exact .inl rfl
 ·exact .inr fun e => hr g (by simpa [Value.ownBlock] using e.symm) cur hgb
theorem SlO.snoc {b : Nat} {W : World} {vs : List Value} {ls : List Ln} {v : Value} {x : Ln} (h : SlO b W vs ls) (hv : W.ownsRow b 63 6 v x.toks.length (ksCells x.toks)) : SlO b W (vs ++ [v]) (ls ++ [x]):=by
 refine ⟨by simp [h.1],fun i u y h1 h2 => ?_⟩
 rcases Nat.lt_trichotomy i vs.length with hi | hi | hi
 ·rw [List.getElem?_append_left hi] at h1
  rw [List.getElem?_append_left (by rw [← h.1]; exact hi)] at h2
  exact h.2 i u y h1 h2
 ·rw [List.getElem?_append_right (by omega),hi,Nat.sub_self] at h1
  rw [List.getElem?_append_right (by have:=h.1; omega),hi,← h.1,Nat.sub_self] at h2
  simp at h1 h2
  subst h1 h2
  exact hv
 ·rw [List.getElem?_eq_none (by simp; omega)] at h1; cases h1
theorem SlO.slK {b : Nat} {W : World} {vs : List Value} {ls : List Ln} (h : SlO b W vs ls) : SlK W vs ls:=by
 refine ⟨h.1,fun i v x h1 h2 => ?_⟩
 have hk:=Ks.of_row (h.2 i v x h1 h2)
 refine ⟨hk,?_⟩
 obtain ⟨ad,cap,rfl,_⟩:=hk
 rfl
def LinesI (n0 B0 B1 B2 : Nat) (v : Value) (f : List (Nat × Nat) → List Ln) (pre : List (Nat × Nat)) (W : World) : Prop :=
 (∃ u vs,Boxed W B1 32 u ∧ W.ownsRow n0 46 4 u (f pre).length (lnCells vs (f pre)) ∧ SlO n0 W vs (f pre)) ∧ Boxed W B0 44 v ∧ Boxed W B2 44 v
theorem linesI_own (n0 B0 B1 B2 : Nat) (v : Value) {β : Type} (h : β → List (Nat × Nat)) (f : List (Nat × Nat) → List Ln) : Own (fun (pre : β) W => LinesI n0 B0 B1 B2 v f (h pre) W):=by
 rintro s X Y row ⟨⟨u,vs,hu,hr,hs⟩,b0,b2⟩ hg hrow
 have nb : ∀ {B : Nat} {t : TypeId} {z : Value},Boxed X B t z → some B ≠ row:=fun hb e => by
  obtain ⟨o,ho,hc⟩:=hrow _ e.symm
  rw [show X.heap[_]? = _ from hb] at ho; cases ho; cases hc
 refine ⟨⟨u,vs,hu.kept hg (nb hu),hr.kept hg ?_,hs.kept hg fun r e cur hc => ?_⟩,b0.kept hg (nb b0),b2.kept hg (nb b2)⟩
 ·rcases hr.2 with ⟨rfl,_⟩ | ⟨g,cap,cur,rfl,_,hgb,_⟩
  ·exact .inl rfl
  ·refine .inr fun e' => ?_
   obtain ⟨o,ho,hc⟩:=hrow g (by simpa [Value.ownBlock] using e'.symm)
   rw [hgb] at ho; cases ho; cases hc
 ·obtain ⟨o,ho,hc'⟩:=hrow r e
  rw [hc] at ho; cases ho; cases hc'
theorem SlO.appended {n0 B k : Nat} {w5 w6 : World} {u v' : Value} {xs vs : List Value} {ls : List Ln} {tmp : Obj} (h : SlO n0 w5 vs ls) (hrow : w5.ownsRow n0 46 4 u k xs)
  (hgrow : (w5.alloc tmp).grownBy w6 u.ownBlock) (hb : Boxed w6 B 32 u) : SlO n0 (w6.setCell ⟨B,0,none⟩ v') vs ls:=by
 refine ((h.below ((Below.refl _ _).alloc (Nat.le_refl _) tmp)).kept hgrow fun r e cur hc => ?_).kept (grownBy_setCell' w6 B v') fun r e cur hc => ?_
 ·rcases (hrow.alloc tmp).2 with ⟨rfl,_⟩ | ⟨g,cap,cur',rfl,_,hgb,_⟩
  ·cases e
  ·obtain rfl : g = r:=by simpa [Value.ownBlock] using e
   rw [hgb] at hc
   simp at hc
 ·injection e with e
  subst e
  rw [show w6.heap[B]? = _ from hb] at hc
  simp at hc
theorem lnCells_snoc (vs : List Value) (ls : List Ln) (v : Value) (x : Ln) (h : vs.length = ls.length) : lnCells (vs ++ [v]) (ls ++ [x]) = lnCells vs ls ++ [.int .i64 x.kind, .int .i64 x.first, .int .i64 x.n,v]:=by
 rw [lnCells_append _ _ _ _ h]
 simp [lnCells]
theorem keepsFrom_below {B : Nat} {W W' : World} (h : Below W.heap.size W W') : KeepsFrom B W W':=⟨h.size,fun k _ _ hk _ => (h.block k (Array.getElem?_eq_some_iff.1 hk).1).trans hk⟩
theorem news_line (w : World) (a b c d : Value) (t : TypeId) : ∀ j u,[a,b,c,d][j]? = some u → (w.alloc (.cells #[a,b,c,d] t)).cell? ((⟨w.heap.size,0,none⟩ : Addr).add j) = some u:=by
 intro j u hj
 match j,hj with
 | 0,hj => simp at hj; subst hj; simp [Addr.add]
 | 1,hj => simp at hj; subst hj; simp [Addr.add]
 | 2,hj => simp at hj; subst hj; simp [Addr.add]
 | 3,hj => simp at hj; subst hj; simp [Addr.add]
theorem lines_in (m : Nat) (hm : 3 ≤ m) (v : Value) (ts : List K) (w : World) (hv : Ks w v ts) (hl : ts.length * 56 ≤ 140737488355328) (hG : Glob w) :
  CallsIn Fence.wide m Tryz.prog 28 #[v] w fun e W' => ∃ u,e = .returned u ∧ Lns W' u (Dx.lines ts) ∧ Below w.heap.size w W':=by
 have h1 : 1 ≤ m:=by omega
 obtain ⟨i0,hi,hz0,hz1,hz2⟩:=info_parts infoLn
 obtain ⟨ad,cap,rfl,hc1,hc2, -⟩:=id hv
 have HG:=Lib.hid hG
 obtain ⟨N,hN⟩ : ∃ N,N = ts.length:=⟨_,rfl⟩
 have hcl:=Dx.cuts_length ts
 rw [← hN] at hl hc1 hcl ⊢
 have HN:=Lib.hid hN
 have hu : 0 < ts.length → Under (.slice ad N cap) w.heap.size:=fun hp g o n' cap' e => by
  obtain ⟨g',o',e', -, -, -,hg, -⟩:=hv.cells hp
  injection e with e1 e2 e3
  rw [e'] at e1
  injection e1 with e1
  injection e1 with e1
  omega
 have hv' : Ks w (.slice ad N cap) ts:=by rw [hN]; exact hv
 have HV:=Lib.hid hv'
 clear hG hv hv' hN
 refine callsIn_of_wp_marks Tryz.func28 rfl trivial ?_ rfl
 simp only [Tryz.ntmps28,List.size_toArray,List.length_cons,List.length_nil,Nat.reduceAdd,Nat.reduceSub,Array.replicate_succ,Array.replicate_zero,List.push_toArray,List.append_toArray,List.nil_append,List.cons_append]
 gi_wp2_with fail
 refine ⟨trivial,(places_in _ ad N cap _).mono ?_⟩
 rintro e w' ⟨rfl,rfl⟩
 gi_wp2_with fail
 have b0:=((Boxed.new w 44 (.slice ad N cap)).alloc (.cells #[.slice none 0 0] 32)).alloc (.cells #[.slice ad N cap] 44)
 have b1:=(Boxed.new (w.alloc (.cells #[.slice ad N cap] 44)) 32 (.slice none 0 0)).alloc (.cells #[.slice ad N cap] 44)
 have b2:=Boxed.new ((w.alloc (.cells #[.slice ad N cap] 44)).alloc (.cells #[.slice none 0 0] 32)) 44 (.slice ad N cap)
 simp only [World.size_alloc,Nat.add_assoc,Nat.reduceAdd] at b1 b2
 have hB0 : Below w.heap.size w (((w.alloc (.cells #[.slice ad N cap] 44)).alloc (.cells #[.slice none 0 0] 32)).alloc (.cells #[.slice ad N cap] 44)):=(((Below.refl _ w).alloc (Nat.le_refl _) _).alloc (by simp) _).alloc (by simp; omega) _
 have hsz : (((w.alloc (.cells #[.slice ad N cap] 44)).alloc (.cells #[.slice none 0 0] 32)).alloc (.cells #[.slice ad N cap] 44)).heap.size = w.heap.size + 3:=by simp
 obtain ⟨W0,hW0⟩ : ∃ W0,((w.alloc (.cells #[.slice ad N cap] 44)).alloc (.cells #[.slice none 0 0] 32)).alloc (.cells #[.slice ad N cap] 44) = W0:=⟨_,rfl⟩
 rw [hW0] at b0 b1 b2 hB0 hsz ⊢
 clear hW0
 refine wpIn_rangeFunc_ownG rfl h1 (gf:=94) (lb:=#[.pointer (some ⟨w.heap.size + 2,0,none⟩)]) rfl trivial (enters_of Tryz.func94 (by kernel_rfl) rfl)
  (places_stops (m - 1) (by omega) (w.heap.size + 2) w.heap.size _ ts (by rw [← HN.out]; exact hl) hu W0 (by omega) b2.cell (HV.out.below hB0)) KeepS.trans (KeepS.put (by omega) (by omega)) (Below.refl _ _) (fun _ => rfl)
  (fun pre W => LinesI w.heap.size w.heap.size (w.heap.size + 1) (w.heap.size + 2) (.slice ad N cap) (fun l => l.map (Dx.lnOf ts)) (pre.map Subtype.val) W ∧ Below w.heap.size w W)
  (fun _ _ _ => False)
  (OwnFrom.and (Own.from (linesI_own _ _ _ _ _ (fun pre : List (Cut ts) => pre.map Subtype.val) _) _) (ownFrom_below (Nat.le_refl _) (by omega)))
  (fun _ _ _ _ _ hs _ _ => hs)
  ⟨⟨⟨_,[],b1,World.ownsRow_nil _ _ _ _,SlO.nil _ _⟩,b0,b2⟩,hB0⟩
  (fun x => { tmps:=#[.slice ad N cap, .pointer (some ⟨w.heap.size,0,none⟩), .slice none 0 0, .pointer (some ⟨w.heap.size + 1,0,none⟩), .int .i64 x.1.1, .int .i64 x.1.2,undef,undef,undef, .slice ad N cap, .func (.func 94) #[] #[.pointer (some ⟨w.heap.size + 2,0,none⟩)], .int .i64 x.1.1, .int .i64 x.1.2,undef,undef,undef,undef,undef,undef,undef,undef,undef,undef,undef,undef,undef,undef,undef,undef,undef,undef,undef,undef,undef,undef,undef],defers:=[] }) ?assign ?body ?done ?stop
 case assign =>
  intro l x W K hK
  gi_wp2
  exact hK
 case body =>
  rintro l pre ⟨⟨f,n⟩,hok⟩ W ⟨⟨⟨u,vs,bu,hrow,hso⟩,b0',b2'⟩,hB⟩ hlt
  obtain ⟨hf,hfn⟩:=id hok
  dsimp only at hf hfn ⊢
  obtain ⟨g,o,rfl, -, -, -,hg, -⟩:=HV.out.cells (by omega)
  rw [← HN.out] at hf hfn
  have hV2:=HV.out.below hB
  have hpt:=hV2.part f (f + n) (by omega) (by rw [← HN.out]; exact hfn)
  rw [show f + n - f = n by omega] at hpt
  have cL:=bu.cell
  have cA:=b0'.cell
  have e1 : IntKind.i64.wrap ((f : Int) + n) = (f : Int) + n:=IntWalk.i64_in _ (by omega)
  have e2 : ((f : Int) + n).toNat = f + n:=by omega
  have z1 : (f : Int) ≤ (f : Int) + n:=by omega
  have z2 : (f : Int) + n ≤ cap:=by omega
  have z3 : (0 : Int) ≤ f:=by omega
  have z4 : f < cap:=by omega
  have HK:=Lib.hid hpt
  have hble:=Dx.begins_le ((ts.drop f).take n)
  have htl : ((ts.drop f).take n).length = n:=by have:=HN.out; rw [List.length_take,List.length_drop]; omega
  obtain ⟨tl,htl'⟩ : ∃ tl,tl = (ts.drop f).take n:=⟨_,rfl⟩
  rw [← htl'] at hpt HK hble htl
  obtain ⟨kd,hkd⟩ : ∃ kd,kd = (Dx.begins tl).1:=⟨_,rfl⟩
  obtain ⟨ah,hah⟩ : ∃ ah,ah = (Dx.begins tl).2:=⟨_,rfl⟩
  rw [← hah,htl] at hble
  have HTl:=Lib.hid htl'
  have Htl:=Lib.hid htl
  have HKd:=Lib.hid hkd
  have HAh:=Lib.hid hah
  clear hpt htl' htl hkd hah
  gi_wp2_with fail
  refine ⟨trivial,fun h => by simp [Fence.wide] at h,(CallsIn.inRound l (callsIn_wide.2 (begins_any _ tl _ HK.out (by rw [Htl.out]; omega) (HG.out.later hB)))).mono ?_⟩
  rintro e w3 ⟨rfl,hB3⟩
  rw [← HKd.out,← HAh.out]
  have cL3:=(hB3.cell (p:=⟨w.heap.size + 1,0,none⟩) bu.lt).trans cL
  have y1 : (0 : Int) ≤ ah:=by omega
  have y2 : (ah : Int) ≤ n:=by omega
  clear cL cA e1 e2
  gi_wp2_with fail
  obtain ⟨x,hx0,hx1⟩ : ∃ x,(cap - f = ah → x = 0) ∧ (cap - f ≠ ah → x = ah * 6):=by
   by_cases h : cap - f = ah
   ·exact ⟨0,fun _ => rfl,fun h' => absurd h h'⟩
   ·exact ⟨ah * 6,fun h' => absurd h' h,fun _ => rfl⟩
  have hB4 : Below w.heap.size w w3.drew:=(hB.trans (hB3.mono hB.size)).drew
  have hB34 : Below W.heap.size W w3.drew:=hB3.drew
  have hS4 : w3.drew.cell? ⟨w.heap.size + 1,0,none⟩ = some u:=cL3
  have bu4 : Boxed w3.drew (w.heap.size + 1) 32 u:=(hB3.block _ bu.lt).trans bu
  have b04 : Boxed w3.drew w.heap.size 44 (.slice (some ⟨g,o,none⟩) N cap):=(hB3.block _ b0'.lt).trans b0'
  have b24 : Boxed w3.drew (w.heap.size + 2) 44 (.slice (some ⟨g,o,none⟩) N cap):=(hB3.block _ b2'.lt).trans b2'
  have hrow4:=row_below hrow hB34
  have hso4:=hso.below hB34
  have hK4 : Ks w3.drew (.slice (some ⟨g,o + f * 6 + x,none⟩) (n - ah) (cap - f - ah)) (tl.drop ah):=by
   by_cases h : cap - f = ah
   ·have hn0 : n - ah = 0:=by omega
    rw [hn0,List.drop_of_length_le (by rw [Htl.out]; omega)]
    exact Ks.none_at _ _ _ (by omega)
   ·rw [hx1 h]
    have:=(HK.out.below hB34).part ah n hble (by rw [Htl.out]; omega)
    rwa [List.take_of_length_le (by rw [List.length_drop,Htl.out]; omega)] at this
  have HK4:=Lib.hid hK4
  have hlen : ((pre.map Subtype.val).map (Dx.lnOf ts)).length < N:=by simp; omega
  refine region_round (by kernel_rfl) (by kernel_rfl) (fun h => by obtain ⟨_,_,h⟩:=h; exact h) ?_
  obtain ⟨w4,hw4⟩ : ∃ w4,w4 = w3.drew:=⟨_,rfl⟩
  rw [← hw4] at hB4 hB34 hS4 bu4 b04 b24 hrow4 hso4 HK4 ⊢
  clear hw4 hK4
  have hfin : ∀ (w5 w6 : World) (ad5 : Option Addr) (n5 cap5 g' cap' : Nat),Below w4.heap.size w4 w5 → n5 = (tl.drop ah).length → w5.ownsRow w4.heap.size 63 6 (.slice ad5 n5 cap5) n5 (ksCells (tl.drop ah)) →
    w5.ownsRow w.heap.size 46 4 u ((pre.map Subtype.val).map (Dx.lnOf ts)).length (lnCells vs ((pre.map Subtype.val).map (Dx.lnOf ts))) → SlO w.heap.size w5 vs ((pre.map Subtype.val).map (Dx.lnOf ts)) →
    Boxed w5 (w.heap.size + 1) 32 u → Boxed w5 w.heap.size 44 (.slice (some ⟨g,o,none⟩) N cap) → Boxed w5 (w.heap.size + 2) 44 (.slice (some ⟨g,o,none⟩) N cap) →
    (w5.alloc (.cells #[.int .i64 kd, .int .i64 f, .int .i64 n, .slice ad5 n5 cap5] 46)).grownBy w6 u.ownBlock → Boxed w6 (w.heap.size + 1) 32 u →
    (w6.setCell ⟨w.heap.size + 1,0,none⟩ (.slice (some ⟨g',0,none⟩) (((pre.map Subtype.val).map (Dx.lnOf ts)).length + 1) cap')).ownsRow w.heap.size 46 4 (.slice (some ⟨g',0,none⟩) (((pre.map Subtype.val).map (Dx.lnOf ts)).length + 1) cap') (((pre.map Subtype.val).map (Dx.lnOf ts)).length + 1) (lnCells vs ((pre.map Subtype.val).map (Dx.lnOf ts)) ++ [.int .i64 kd, .int .i64 f, .int .i64 n, .slice ad5 n5 cap5]) →
    Boxed (w6.setCell ⟨w.heap.size + 1,0,none⟩ (.slice (some ⟨g',0,none⟩) (((pre.map Subtype.val).map (Dx.lnOf ts)).length + 1) cap')) (w.heap.size + 1) 32 (.slice (some ⟨g',0,none⟩) (((pre.map Subtype.val).map (Dx.lnOf ts)).length + 1) cap') →
    KeepsOthers w5 (w6.setCell ⟨w.heap.size + 1,0,none⟩ (.slice (some ⟨g',0,none⟩) (((pre.map Subtype.val).map (Dx.lnOf ts)).length + 1) cap')) →
    Below w.heap.size w5 (w6.setCell ⟨w.heap.size + 1,0,none⟩ (.slice (some ⟨g',0,none⟩) (((pre.map Subtype.val).map (Dx.lnOf ts)).length + 1) cap')) →
    KeepsFrom W0.heap.size W (w6.setCell ⟨w.heap.size + 1,0,none⟩ (.slice (some ⟨g',0,none⟩) (((pre.map Subtype.val).map (Dx.lnOf ts)).length + 1) cap')) ∧
    KeepS (w.heap.size + 2) w.heap.size W (w6.setCell ⟨w.heap.size + 1,0,none⟩ (.slice (some ⟨g',0,none⟩) (((pre.map Subtype.val).map (Dx.lnOf ts)).length + 1) cap')) ∧
    LinesI w.heap.size w.heap.size (w.heap.size + 1) (w.heap.size + 2) (.slice (some ⟨g,o,none⟩) N cap) (fun l => l.map (Dx.lnOf ts)) ((pre ++ [⟨(f,n),hok⟩] : List (Cut ts)).map Subtype.val) (w6.setCell ⟨w.heap.size + 1,0,none⟩ (.slice (some ⟨g',0,none⟩) (((pre.map Subtype.val).map (Dx.lnOf ts)).length + 1) cap')) ∧
    Below w.heap.size w (w6.setCell ⟨w.heap.size + 1,0,none⟩ (.slice (some ⟨g',0,none⟩) (((pre.map Subtype.val).map (Dx.lnOf ts)).length + 1) cap')):=by
   intro w5 w6 ad5 n5 cap5 g' cap' hB5 hn5 hrow5 hrow5' hso5 bu5 b05 b25 hgrow hv1 hr2 hv2 hk2 hb2
   have hB5w : Below w.heap.size w w5:=hB4.trans (hB5.mono hB4.size)
   have hB35 : Below W.heap.size W w5:=hB34.trans (hB5.mono hB34.size)
   have b0f:=((b05.alloc (.cells #[.int .i64 kd, .int .i64 f, .int .i64 n, .slice ad5 n5 cap5] 46)).kept hgrow (b05.not_row (by decide) hrow5')).other (B':=w.heap.size + 1) (by omega) (.slice (some ⟨g',0,none⟩) (((pre.map Subtype.val).map (Dx.lnOf ts)).length + 1) cap')
   have b2f:=((b25.alloc (.cells #[.int .i64 kd, .int .i64 f, .int .i64 n, .slice ad5 n5 cap5] 46)).kept hgrow (b25.not_row (by decide) hrow5')).other (B':=w.heap.size + 1) (by omega) (.slice (some ⟨g',0,none⟩) (((pre.map Subtype.val).map (Dx.lnOf ts)).length + 1) cap')
   have hx : Dx.lnOf ts (f,n) = ⟨kd,f,n,tl.drop ah⟩:=by
    unfold Dx.lnOf Dx.mkLn
    rw [← HTl.out,← HKd.out,← HAh.out,Htl.out]
   have hmap : ((pre ++ [⟨(f,n),hok⟩] : List (Cut ts)).map Subtype.val).map (Dx.lnOf ts) = (pre.map Subtype.val).map (Dx.lnOf ts) ++ [⟨kd,f,n,tl.drop ah⟩]:=by
    rw [List.map_append,List.map_append]
    show _ ++ [Dx.lnOf ts (f,n)] = _
    rw [hx]
   have hs5 : SlO w.heap.size w5 (vs ++ [.slice ad5 n5 cap5]) ((pre.map Subtype.val).map (Dx.lnOf ts) ++ [⟨kd,f,n,tl.drop ah⟩]):=hso5.snoc (by
    dsimp only
    rw [← hn5]
    exact row_base hrow5 hB4.size)
   refine ⟨(keepsFrom_below hB35).trans (hk2.from _),⟨Eq.trans b2f (Eq.symm b2'),fun k hk => (hb2.block k hk).trans (hB35.block k (by have:=hB.size; omega))⟩,⟨⟨_,vs ++ [.slice ad5 n5 cap5],hv2,?_,?_⟩,b0f,b2f⟩,hB5w.trans hb2⟩
   ·dsimp only
    rw [hmap,List.length_append,lnCells_snoc _ _ _ _ hso5.1]
    exact hr2
   ·dsimp only
    rw [hmap]
    exact hs5.appended hrow5' hgrow hv1
  have HF:=Lib.hid hfin
  clear hfin
  refine wpAny_take (i:=1) (v:=.int .i64 kd) rfl (by kernel_rfl) (by kernel_rfl) (by kernel_rfl) (fun _ _ _ h => h) (Or.inl ⟨by rfl,fun w => by go_simp⟩) ?_
  simp only [Act.put,List.getElem_toArray,List.getElem_cons_zero,List.getElem_cons_succ,List.setIfInBounds_toArray,List.set_cons_zero,List.set_cons_succ]
  refine wpAny_take (i:=2) (v:=.int .i64 f) rfl (by kernel_rfl) (by kernel_rfl) (by kernel_rfl) (fun _ _ _ h => h) (Or.inl ⟨by rfl,fun w => by go_simp⟩) ?_
  simp only [Act.put,List.getElem_toArray,List.getElem_cons_zero,List.getElem_cons_succ,List.setIfInBounds_toArray,List.set_cons_zero,List.set_cons_succ]
  refine wpAny_take (i:=3) (v:=.int .i64 n) rfl (by kernel_rfl) (by kernel_rfl) (by kernel_rfl) (fun _ _ _ h => h) (Or.inl ⟨by rfl,fun w => by go_simp⟩) ?_
  simp only [Act.put,List.getElem_toArray,List.getElem_cons_zero,List.getElem_cons_succ,List.setIfInBounds_toArray,List.set_cons_zero,List.set_cons_succ]
  refine wpAny_take (i:=4) (v:=.slice (some ⟨g,o + f * 6,none⟩) n (cap - f)) rfl (by kernel_rfl) (by kernel_rfl) (by kernel_rfl) (fun _ _ _ h => h) (Or.inl ⟨by rfl,fun w => by go_simp⟩) ?_
  simp only [Act.put,List.getElem_toArray,List.getElem_cons_zero,List.getElem_cons_succ,List.setIfInBounds_toArray,List.set_cons_zero,List.set_cons_succ]
  refine wpAny_take (i:=5) (v:=.int .i64 ah) rfl (by kernel_rfl) (by kernel_rfl) (by kernel_rfl) (fun _ _ _ h => h) (Or.inl ⟨by rfl,fun w => by go_simp⟩) ?_
  simp only [Act.put,List.getElem_toArray,List.getElem_cons_zero,List.getElem_cons_succ,List.setIfInBounds_toArray,List.set_cons_zero,List.set_cons_succ]
  refine wpAny_take (i:=6) (v:=.slice (some ⟨g,o + f * 6 + x,none⟩) (n - ah) (cap - f - ah)) rfl (by kernel_rfl) (by kernel_rfl) (by kernel_rfl) (fun _ _ _ h => h) (Or.inl ⟨by rfl,fun w => by go_simp; by_cases h : cap - f = ah <;> simp [h,hx0,hx1]⟩) ?_
  simp only [Act.put,List.getElem_toArray,List.getElem_cons_zero,List.getElem_cons_succ,List.setIfInBounds_toArray,List.set_cons_zero,List.set_cons_succ]
  refine wpAny_ready (rs:=[0,7]) (by kernel_rfl) (by simp) ?_
  refine AllReady.cons rfl (fun K hK => ?_) ?_
  ·have HKK:=Lib.hid hK
   clear hK
   have hSx:=hS4
   go_simp
   refine HKK.out _ _ ?_
   clear HKK K hSx
   refine wpAny_ready (rs:=[7]) (by kernel_rfl) (by simp) ?_
   refine AllReady.cons rfl (fun K hK => ?_) AllReady.nil
   have HKK:=Lib.hid hK
   clear hK
   go_simp
   refine (clone_any _ (tl.drop ah) _ HK4.out (by rw [List.length_drop,Htl.out]; omega)).mono ?_
   rintro e w5 ⟨u5,rfl,hrow5,hB5⟩
   obtain ⟨ad5,cap5,rfl, -, -, -⟩:=id (Ks.of_row hrow5)
   refine HKK.out _ _ ?_
   clear HKK K
   obtain ⟨n5,hn5⟩ : ∃ n5,n5 = (tl.drop ah).length:=⟨_,rfl⟩
   rw [← hn5] at hrow5 ⊢
   have Hn5:=Lib.hid hn5
   clear hn5
   have hB5w : Below w.heap.size w w5:=hB4.trans (hB5.mono hB4.size)
   have bu5 : Boxed w5 (w.heap.size + 1) 32 u:=(hB5.block _ bu4.lt).trans bu4
   have b05 : Boxed w5 w.heap.size 44 (.slice (some ⟨g,o,none⟩) N cap):=(hB5.block _ b04.lt).trans b04
   have b25 : Boxed w5 (w.heap.size + 2) 44 (.slice (some ⟨g,o,none⟩) N cap):=(hB5.block _ b24.lt).trans b24
   have hrow5':=row_below hrow4 hB5
   have hso5:=hso4.below hB5
   refine wpAny_take (i:=8) (v:=.agg #[.int .i64 kd, .int .i64 f, .int .i64 n, .slice ad5 n5 cap5]) rfl (by kernel_rfl) (by kernel_rfl) (by kernel_rfl) (fun _ _ _ h => h) (Or.inl ⟨by rfl,fun w => by go_simp⟩) ?_
   simp only [Act.put,List.getElem_toArray,List.getElem_cons_zero,List.getElem_cons_succ,List.setIfInBounds_toArray,List.set_cons_zero,List.set_cons_succ]
   refine wpAny_ready (rs:=[9]) (by kernel_rfl) (by simp) ?_
   refine AllReady.cons rfl (fun K hK => ?_) AllReady.nil
   have HKK:=Lib.hid hK
   clear hK
   go_simp
   refine HKK.out _ _ ?_
   clear HKK K
   refine wpAny_ready (rs:=[10]) (by kernel_rfl) (by simp) ?_
   refine AllReady.cons rfl (fun K hK => ?_) AllReady.nil
   have HKK:=Lib.hid hK
   clear hK
   refine step_append_lies _ (by rfl) _ _ _ (by rfl) w.heap.size 46 i0 _ 4 48 Tryz.underlying32 hi hz0 hz1 hz2 rfl (by omega) u ((pre.map Subtype.val).map (Dx.lnOf ts)).length (lnCells vs ((pre.map Subtype.val).map (Dx.lnOf ts))) (by rfl) (hrow5'.alloc _)
    ⟨w5.heap.size,0,none⟩ 1 1 [.int .i64 kd, .int .i64 f, .int .i64 n, .slice ad5 n5 cap5] (by rfl) (by rfl) (news_line _ _ _ _ _ _) (by simp [Value.oneCell']) (by omega) (by unfold maxLen; omega) (by omega) (by have:=hB5w.size; simp; omega) (w5.heap.size + 1) (by simp) ?_
   intro g' cap' w6 hown' hgrow hat hlt6
   obtain ⟨hv1,hv2,hr2,hk2,hb2⟩:=bu5.appended (by decide) hrow5' hB5w.size (by omega) hown' hgrow
   have hc1':=hv1.cell
   have hf1:=hv1.frozen
   refine HKK.out _ _ ?_
   clear HKK K
   refine wpAny_ready (rs:=[11]) (by kernel_rfl) (by simp) ?_
   refine AllReady.cons rfl (fun K hK => ?_) AllReady.nil
   have HKK:=Lib.hid hK
   clear hK
   have HR2:=Lib.hid hr2
   have HV2:=Lib.hid hv2
   have HK2:=Lib.hid hk2
   have HB2:=Lib.hid hb2
   clear hr2 hv2 hk2 hb2
   go_simp
   refine HKK.out _ _ ?_
   refine wpAny_done (by kernel_rfl) ?_ _
   have hq:=HF.out w5 w6 ad5 n5 cap5 g' cap' hB5 Hn5.out hrow5 hrow5' hso5 bu5 b05 b25 hgrow hv1 HR2.out HV2.out HK2.out HB2.out
   simp only [List.length_map] at hq
   exact hq
  refine AllReady.cons rfl (fun K hK => ?_) AllReady.nil
  have HKK:=Lib.hid hK
  clear hK
  go_simp
  refine (clone_any _ (tl.drop ah) _ HK4.out (by rw [List.length_drop,Htl.out]; omega)).mono ?_
  rintro e w5 ⟨u5,rfl,hrow5,hB5⟩
  obtain ⟨ad5,cap5,rfl, -, -, -⟩:=id (Ks.of_row hrow5)
  refine HKK.out _ _ ?_
  clear HKK K
  obtain ⟨n5,hn5⟩ : ∃ n5,n5 = (tl.drop ah).length:=⟨_,rfl⟩
  rw [← hn5] at hrow5 ⊢
  have Hn5:=Lib.hid hn5
  clear hn5
  have hB5w : Below w.heap.size w w5:=hB4.trans (hB5.mono hB4.size)
  have bu5 : Boxed w5 (w.heap.size + 1) 32 u:=(hB5.block _ bu4.lt).trans bu4
  have b05 : Boxed w5 w.heap.size 44 (.slice (some ⟨g,o,none⟩) N cap):=(hB5.block _ b04.lt).trans b04
  have b25 : Boxed w5 (w.heap.size + 2) 44 (.slice (some ⟨g,o,none⟩) N cap):=(hB5.block _ b24.lt).trans b24
  have hrow5':=row_below hrow4 hB5
  have hso5:=hso4.below hB5
  refine wpAny_take (i:=8) (v:=.agg #[.int .i64 kd, .int .i64 f, .int .i64 n, .slice ad5 n5 cap5]) rfl (by kernel_rfl) (by kernel_rfl) (by kernel_rfl) (fun _ _ _ h => h) (Or.inl ⟨by rfl,fun w => by go_simp⟩) ?_
  simp only [Act.put,List.getElem_toArray,List.getElem_cons_zero,List.getElem_cons_succ,List.setIfInBounds_toArray,List.set_cons_zero,List.set_cons_succ]
  refine wpAny_ready (rs:=[0,9]) (by kernel_rfl) (by simp) ?_
  refine AllReady.cons rfl (fun K hK => ?_) ?_
  ·have HKK:=Lib.hid hK
   clear hK
   have hSx:=bu5.cell
   go_simp
   refine HKK.out _ _ ?_
   clear HKK K hSx
   refine wpAny_ready (rs:=[9]) (by kernel_rfl) (by simp) ?_
   refine AllReady.cons rfl (fun K hK => ?_) AllReady.nil
   have HKK:=Lib.hid hK
   clear hK
   go_simp
   refine HKK.out _ _ ?_
   clear HKK K
   refine wpAny_ready (rs:=[10]) (by kernel_rfl) (by simp) ?_
   refine AllReady.cons rfl (fun K hK => ?_) AllReady.nil
   have HKK:=Lib.hid hK
   clear hK
   refine step_append_lies _ (by rfl) _ _ _ (by rfl) w.heap.size 46 i0 _ 4 48 Tryz.underlying32 hi hz0 hz1 hz2 rfl (by omega) u ((pre.map Subtype.val).map (Dx.lnOf ts)).length (lnCells vs ((pre.map Subtype.val).map (Dx.lnOf ts))) (by rfl) (hrow5'.alloc _)
    ⟨w5.heap.size,0,none⟩ 1 1 [.int .i64 kd, .int .i64 f, .int .i64 n, .slice ad5 n5 cap5] (by rfl) (by rfl) (news_line _ _ _ _ _ _) (by simp [Value.oneCell']) (by omega) (by unfold maxLen; omega) (by omega) (by have:=hB5w.size; simp; omega) (w5.heap.size + 1) (by simp) ?_
   intro g' cap' w6 hown' hgrow hat hlt6
   obtain ⟨hv1,hv2,hr2,hk2,hb2⟩:=bu5.appended (by decide) hrow5' hB5w.size (by omega) hown' hgrow
   have hc1':=hv1.cell
   have hf1:=hv1.frozen
   refine HKK.out _ _ ?_
   clear HKK K
   refine wpAny_ready (rs:=[11]) (by kernel_rfl) (by simp) ?_
   refine AllReady.cons rfl (fun K hK => ?_) AllReady.nil
   have HKK:=Lib.hid hK
   clear hK
   have HR2:=Lib.hid hr2
   have HV2:=Lib.hid hv2
   have HK2:=Lib.hid hk2
   have HB2:=Lib.hid hb2
   clear hr2 hv2 hk2 hb2
   go_simp
   refine HKK.out _ _ ?_
   refine wpAny_done (by kernel_rfl) ?_ _
   have hq:=HF.out w5 w6 ad5 n5 cap5 g' cap' hB5 Hn5.out hrow5 hrow5' hso5 bu5 b05 b25 hgrow hv1 HR2.out HV2.out HK2.out HB2.out
   simp only [List.length_map] at hq
   exact hq
  refine AllReady.cons rfl (fun K hK => ?_) AllReady.nil
  have HKK:=Lib.hid hK
  clear hK
  go_simp
  refine HKK.out _ _ ?_
  clear HKK K
  refine wpAny_ready (rs:=[0]) (by kernel_rfl) (by simp) ?_
  refine AllReady.cons rfl (fun K hK => ?_) AllReady.nil
  have HKK:=Lib.hid hK
  clear hK
  have hSx:=Lib.cell?_alloc_some (.cells #[.int .i64 kd, .int .i64 f, .int .i64 n, .slice ad5 n5 cap5] 46) bu5.cell
  go_simp
  refine HKK.out _ _ ?_
  clear HKK K hSx
  refine wpAny_ready (rs:=[10]) (by kernel_rfl) (by simp) ?_
  refine AllReady.cons rfl (fun K hK => ?_) AllReady.nil
  have HKK:=Lib.hid hK
  clear hK
  refine step_append_lies _ (by rfl) _ _ _ (by rfl) w.heap.size 46 i0 _ 4 48 Tryz.underlying32 hi hz0 hz1 hz2 rfl (by omega) u ((pre.map Subtype.val).map (Dx.lnOf ts)).length (lnCells vs ((pre.map Subtype.val).map (Dx.lnOf ts))) (by rfl) (hrow5'.alloc _)
   ⟨w5.heap.size,0,none⟩ 1 1 [.int .i64 kd, .int .i64 f, .int .i64 n, .slice ad5 n5 cap5] (by rfl) (by rfl) (news_line _ _ _ _ _ _) (by simp [Value.oneCell']) (by omega) (by unfold maxLen; omega) (by omega) (by have:=hB5w.size; simp; omega) (w5.heap.size + 1) (by simp) ?_
  intro g' cap' w6 hown' hgrow hat hlt6
  obtain ⟨hv1,hv2,hr2,hk2,hb2⟩:=bu5.appended (by decide) hrow5' hB5w.size (by omega) hown' hgrow
  have hc1':=hv1.cell
  have hf1:=hv1.frozen
  refine HKK.out _ _ ?_
  clear HKK K
  refine wpAny_ready (rs:=[11]) (by kernel_rfl) (by simp) ?_
  refine AllReady.cons rfl (fun K hK => ?_) AllReady.nil
  have HKK:=Lib.hid hK
  clear hK
  have HR2:=Lib.hid hr2
  have HV2:=Lib.hid hv2
  have HK2:=Lib.hid hk2
  have HB2:=Lib.hid hb2
  clear hr2 hv2 hk2 hb2
  go_simp
  refine HKK.out _ _ ?_
  refine wpAny_done (by kernel_rfl) ?_ _
  have hq:=HF.out w5 w6 ad5 n5 cap5 g' cap' hB5 Hn5.out hrow5 hrow5' hso5 bu5 b05 b25 hgrow hv1 HR2.out HV2.out HK2.out HB2.out
  simp only [List.length_map] at hq
  exact hq
 case done =>
  rintro D ys W hD hys ⟨⟨⟨u,vs,bu,hrow,hso⟩,_,_⟩,hB⟩ hK
  have cL:=bu.cell
  rw [hys] at hrow hso
  gi_wp2
  refine ⟨by simp, .inl ⟨_,_,rfl,run_takeDeferred hK,?_⟩⟩
  refine ⟨_,results_tmp rfl _ _ _,u,rfl,Lns.of_row (ownsRow_putObj hrow _ hK rfl) (SlO.slK (b:=w.heap.size) (hso.kept (grownBy_putObj' _ D _) fun r e cur hc => by cases e; rw [hK] at hc; cases hc)),hB.trans (belowK_b (w:=w) (Nat.le_refl _) W D _ _ (by omega) hK rfl rfl)⟩
 case stop =>
  rintro D c pre W _ _ h _
  exact h.elim
theorem lines_any (v : Value) (ts : List K) (w : World) (hv : Ks w v ts) (hl : ts.length * 56 ≤ 140737488355328) (hG : Glob w) :
  Calls Tryz.prog 28 #[v] w fun e W' => ∃ u,e = .returned u ∧ Lns W' u (Dx.lines ts) ∧ Below w.heap.size w W' :=
 callsIn_wide.1 (lines_in 3 (by omega) v ts w hv hl hG)
end
namespace Lx
open Go.Lib
open Sp (Ch)
theorem tk_length : ∀ (p : Bool) (l : List Ch),(tk p l).length ≤ l.length:=by
 refine tkInd ?_ ?_ ?_
 ·intro p; simp [tk_nil]
 ·intro p l h ih
  rw [tk_blank p l h]
  rw [List.length_drop] at ih
  omega
 ·intro p l hl h ih
  have h1:=first_len l hl
  rw [tk_tok p l hl h,List.length_cons]
  rw [List.length_drop] at ih
  omega
theorem left_full (t : List UInt8) : ∀ k,(Sp.left k t).length = t.length → bytes (Sp.left k t) = t ∧ ∀ i x,(Sp.left k t)[i]? = some x → x.2 = k + i:=by
 induction t using Sp.ind with
 | h0 => intro k _; exact ⟨rfl,fun i x h => by simp [Sp.left_nil] at h⟩
 | hp r ih =>
  intro k h
  rw [Sp.left_pair] at h
  have:=Sp.left_le (k + 2) r
  simp at h
  omega
 | h1 c r hc ih =>
  intro k h
  rw [Sp.left_one k c r hc] at h ⊢
  obtain ⟨h1,h2⟩:=ih (k + 1) (by simpa using h)
  refine ⟨?_,fun i x hx => ?_⟩
  ·show c :: bytes (Sp.left (k + 1) r) = c :: r
   rw [h1]
  ·cases i with
   | zero => simp at hx; subst hx; rfl
   | succ i =>
    simp at hx
    rw [h2 i x hx]; omega
theorem one_full (t : List UInt8) (x : T) (h : tk false (Sp.left 0 t) = [x]) (hx : x.text.length = t.length) : x.text = t ∧ x.bl = false ∧ x.fr = 0 ∧ x.to = t.length:=by
 obtain ⟨l,hl⟩ : ∃ l,l = Sp.left 0 t:=⟨_,rfl⟩
 rw [← hl] at h
 obtain ⟨m,_,hm,rfl,_⟩:=tk_cons false l x [] h
 have hne : l.drop m ≠ []:=by rw [Ne,List.drop_eq_nil_iff]; omega
 have hf:=first_len (l.drop m) hne
 rw [List.length_drop] at hf
 have hle:=Sp.left_le 0 t
 rw [← hl] at hle
 have hlen : ((bytes (l.drop m)).take (first (bytes (l.drop m))).2).length = (first (bytes (l.drop m))).2:=by
  rw [List.length_take,bytes_length,List.length_drop]; omega
 have hx' : ((bytes (l.drop m)).take (first (bytes (l.drop m))).2).length = t.length:=hx
 rw [hlen] at hx'
 have hm0 : m = 0:=by omega
 subst hm0
 rw [List.drop_zero] at hf hx' hne ⊢
 have hll : l.length = t.length:=by omega
 obtain ⟨h1,h2⟩:=left_full t 0 (by rw [← hl]; exact hll)
 rw [← hl] at h1 h2
 have hpos : 0 < l.length:=List.length_pos_iff.2 hne
 refine ⟨?_,rfl,?_,?_⟩
 ·show (bytes l).take (first (bytes l)).2 = t
  rw [hx',h1,List.take_length]
 ·show (l.getD 0 (0,0)).2 = 0
  rw [List.getD_eq_getElem?_getD,List.getElem?_eq_getElem hpos]
  exact h2 0 _ (List.getElem?_eq_getElem hpos)
 ·show (l.getD ((first (bytes l)).2 - 1) (0,0)).2 + 1 = t.length
  have hlt : (first (bytes l)).2 - 1 < l.length:=by omega
  rw [List.getD_eq_getElem?_getD,List.getElem?_eq_getElem hlt]
  have:=h2 _ _ (List.getElem?_eq_getElem hlt)
  show (l[(first (bytes l)).2 - 1]).2 + 1 = t.length
  rw [this]
  omega
theorem takeWhile_stop (q : UInt8 → Bool) (hq : q 10 = false) (x v : List UInt8) : ((x ++ 10 :: v).takeWhile q).length = (x.takeWhile q).length:=by
 induction x with
 | nil => simp [hq]
 | cons c r ih =>
  rw [List.cons_append,List.takeWhile_cons,List.takeWhile_cons]
  split
  ·simp [ih]
  ·rfl
theorem word_line (x v : List UInt8) : wordLen (x ++ 10 :: v) = wordLen x:=takeWhile_stop _ (by decide) x v
theorem num_line : ∀ (x v : List UInt8),numRest (x ++ 10 :: v) = numRest x
 | [],v => by
  cases v with
  | nil => simp [numRest,show numc 10 = false from by decide]
  | cons d r =>
   have e : numRest (10 :: d :: r) = if isE 10 && isSg d then 2 + numRest r else if numc 10 then 1 + numRest (d :: r) else 0:=rfl
   rw [List.nil_append,e,show isE 10 = false from by decide,show numc 10 = false from by decide]; rfl
 | [c],v => by
  have e : numRest (c :: 10 :: v) = if isE c && isSg 10 then 2 + numRest v else if numc c then 1 + numRest (10 :: v) else 0:=rfl
  have h0:=num_line [] v
  rw [List.nil_append] at h0
  rw [List.cons_append,List.nil_append,e,show isSg 10 = false from by decide,Bool.and_false,if_neg (by simp),h0]
  rfl
 | c :: d :: r,v => by
  have h1:=num_line r v
  have h2:=num_line (d :: r) v
  have e : ∀ u,numRest (c :: d :: u) = if isE c && isSg d then 2 + numRest u else if numc c then 1 + numRest (d :: u) else 0:=fun _ => rfl
  rw [List.cons_append,List.cons_append,e,e,h1]
  rw [List.cons_append] at h2
  rw [h2]
theorem head_line (x v : List UInt8) : headDigit (x ++ 10 :: v) = headDigit x:=by
 cases x with
 | nil => rw [List.nil_append]; show digit 10 = false; decide
 | cons c r => rfl
theorem qr_line (q : UInt8) : ∀ (x v : List UInt8),qr q (x ++ 10 :: v) = qr q x
 | [],v => by
  cases v with
  | nil => simp [qr]
  | cons d r => simp [qr]
 | [c],v => by
  have e : qr q (c :: 10 :: v) = if c = 10 then none else if c = q then some 1 else if c = 92 then (if (10 : UInt8) = 10 then none else (qr q v).map (· + 2)) else (qr q (10 :: v)).map (· + 1):=rfl
  have h0:=qr_line q [] v
  rw [List.nil_append] at h0
  rw [List.cons_append,List.nil_append,e,h0]
  simp [qr]
 | c :: d :: r,v => by
  have h1:=qr_line q r v
  have h2:=qr_line q (d :: r) v
  have e : ∀ u,qr q (c :: d :: u) = if c = 10 then none else if c = q then some 1 else if c = 92 then (if d = 10 then none else (qr q u).map (· + 2)) else (qr q (d :: u)).map (· + 1):=fun _ => rfl
  rw [List.cons_append,List.cons_append,e,e,h1]
  rw [List.cons_append] at h2
  rw [h2]
theorem prefix_line (s x v : List UInt8) (h : 10 ∉ s) : s.isPrefixOf (x ++ 10 :: v) = s.isPrefixOf x:=by
 induction s generalizing x with
 | nil => simp [List.isPrefixOf]
 | cons a s ih =>
  have ha : a ≠ 10:=fun e => h (by rw [e]; simp)
  cases x with
  | nil => simp [List.isPrefixOf,ha]
  | cons c r => simp only [List.cons_append,List.isPrefixOf,ih r (fun e => h (List.mem_cons_of_mem _ e))]
theorem sign_line (x v : List UInt8) : signLen (x ++ 10 :: v) = signLen x:=by
 rw [sign_ref,sign_ref]
 have key : ∀ (L : List (List UInt8)),(∀ s ∈ L,10 ∉ s) → L.any (·.isPrefixOf (x ++ 10 :: v)) = L.any (·.isPrefixOf x):=by
  intro L hL
  induction L with
  | nil => rfl
  | cons s L ih => rw [List.any_cons,List.any_cons,prefix_line s x v (hL s (by simp)),ih (fun s' hs' => hL s' (List.mem_cons_of_mem _ hs'))]
 unfold refSign
 rw [key threes (by decide),key twos (by decide),key ones (by decide)]
theorem first_line (x v : List UInt8) (hx : x ≠ []) : first (x ++ 10 :: v) = first x:=by
 cases x with
 | nil => exact absurd rfl hx
 | cons c r =>
  have h1:=word_line (c :: r) v
  have h5:=sign_line (c :: r) v
  rw [List.cons_append] at h1 h5 ⊢
  have h2 : numLen (c :: (r ++ 10 :: v)) = numLen (c :: r):=by rw [numLen_cons,numLen_cons,head_line,num_line]
  have h3 : ∀ q,closedLen q (c :: (r ++ 10 :: v)) = closedLen q (c :: r):=fun q => by rw [closedLen_cons,closedLen_cons,qr_line]
  rw [first_cons,first_cons,h1,h2,h3,h3,h5]
theorem blank_noslash (c : UInt8) (r : List UInt8) (h : c ≠ 47) : blankLen (c :: r) = if isBl c then 1 else 0:=by
 rw [blankLen_cons]
 cases r with
 | nil => rfl
 | cons d r =>
  have e : commentLen (c :: d :: r) = 0:=by rw [commentLen_cons,if_neg (fun e => h e.1),if_neg (fun e => h e.1)]
  rw [e]
theorem tb_line (v : List UInt8) : ∀ (p : Bool) (u : List UInt8),(∀ c ∈ u,c ≠ 47) → ∃ q,tb p (u ++ 10 :: v) = tb p u ++ (7,[10],q) :: tb false v:=by
 refine tbInd ?_ ?_ ?_
 ·intro p _
  refine ⟨p,?_⟩
  have hb : blankLen (10 :: v) = 0:=by rw [blank_noslash 10 v (by decide)]; decide
  rw [List.nil_append,tb_tok p _ (by simp) hb,tb_nil]
  have hf : first (10 :: v) = (7,1):=by rw [first_cons,if_pos rfl]
  rw [hf]; rfl
 ·intro p u hb ih hu
  cases u with
  | nil => simp [blankLen] at hb
  | cons c r =>
   have hc:=hu c (by simp)
   have e1:=blank_noslash c r hc
   have e2:=blank_noslash c (r ++ 10 :: v) hc
   have hbl : blankLen (c :: r) = 1:=by
    rw [e1] at hb ⊢
    split at hb
    ·rename_i h; rw [if_pos h]
    ·simp at hb
   rw [hbl] at ih hb
   obtain ⟨q,hq⟩:=ih (fun d hd => hu d (List.mem_of_mem_drop hd))
   refine ⟨q,?_⟩
   have hbl2 : blankLen (c :: (r ++ 10 :: v)) = 1:=by rw [e2,← e1,hbl]
   rw [List.cons_append,tb_blank p _ (by omega),hbl2,tb_blank p (c :: r) (by omega),hbl]
   exact hq
 ·intro p u hne hb ih hu
  obtain ⟨q,hq⟩:=ih (fun d hd => hu d (List.mem_of_mem_drop hd))
  refine ⟨q,?_⟩
  have hf:=first_line u v hne
  have hlen:=first_le u hne
  have hb2 : blankLen (u ++ 10 :: v) = 0:=by
   cases u with
   | nil => exact absurd rfl hne
   | cons c r =>
    have hc:=hu c (by simp)
    rw [blank_noslash c r hc] at hb
    rw [List.cons_append,blank_noslash c _ hc,hb]
  rw [tb_tok p _ (by simp) hb2,tb_tok p u hne hb,hf,List.take_append_of_le_length hlen.2,List.drop_append_of_le_length hlen.2,hq]
  rfl
end Lx
namespace Lx
open Go.Lib
open Sp (Ch)
def adj : List UInt8 → Prop
 | [] => False
 | [_] => False
 | c :: d :: r => (c = 92 ∧ d = 10) ∨ adj (d :: r)
theorem left_noadj (t : List UInt8) : ¬ adj t → ∀ k,bytes (Sp.left k t) = t:=by
 induction t using Sp.ind with
 | h0 => intro _ k; rfl
 | hp r ih => intro h; exact absurd (.inl ⟨rfl,rfl⟩) h
 | h1 c r hc ih =>
  intro h k
  have hr : ¬ adj r:=by
   intro e
   cases r with
   | nil => exact e
   | cons d r => exact h (.inr e)
  rw [Sp.left_one k c r hc]
  show c :: bytes (Sp.left (k + 1) r) = c :: r
  rw [ih hr]
def Good (w : List UInt8) : Prop:=w ≠ [] ∧ (w = [10] ∨ 10 ∉ w) ∧ w.getLast? ≠ some 92
end Lx
section
open Go.RowKit Go.Shelf
open Lx (T)
def tokAgg (f : Int) (t : T) : Value:=.agg #[.int .i64 t.kind, .string ⟨t.text.toArray⟩, .int .i64 f, .int .i64 t.fr, .int .i64 t.to, .bool t.bl]
def zeroTok : T:=⟨0,[],0,0,false⟩
def oneOf (t : List UInt8) : Option T :=
 match Lx.tk false (Sp.left 0 t) with
 | [x] => if x.kind ≠ 7 ∧ x.text.length = t.length then some x else none
 | _ => none
def OnePost (w : World) (o : Option T) (e : Ending) (w' : World) : Prop:=e = .returned (.tuple #[tokAgg 0 (o.getD zeroTok), .bool o.isSome]) ∧ Below w.heap.size w w'
theorem one_any (s : ByteArray) (hs : s.size ≤ 1000000000) (w : World) (hG : Glob w) : Calls Tryz.prog 76 #[.string s] w (OnePost w (oneOf s.data.toList)):=by
 have hB0 : Below w.heap.size w (w.alloc (.cells #[.int .i64 0, .string ⟨#[]⟩, .int .i64 0, .int .i64 0, .int .i64 0, .bool false] 63)):=(Below.refl _ w).alloc (Nat.le_refl _) _
 have HB0:=Lib.hid hB0
 have HG:=Lib.hid (hG.later hB0)
 obtain ⟨ts,hts⟩ : ∃ ts,ts = Lx.tk false (Sp.left 0 s.data.toList):=⟨_,rfl⟩
 obtain ⟨o,ho⟩ : ∃ o,o = oneOf s.data.toList:=⟨_,rfl⟩
 rw [← ho]
 unfold oneOf at ho
 rw [← hts] at ho
 have HT:=Lib.hid hts
 have HO:=Lib.hid ho
 clear hB0 hG hts ho
 go_enter Tryz.func76,Tryz.ntmps76
 go_wp2_with fail
 refine (tokens_any 0 s hs _ HG.out).mono ?_
 rintro e w1 ⟨v,rfl,hv,hB1⟩
 rw [← HT.out] at hv
 obtain ⟨ad,cap,rfl, -⟩:=id hv
 have hbk : w1.heap[w.heap.size]? = some (.cells #[.int .i64 0, .string ⟨#[]⟩, .int .i64 0, .int .i64 0, .int .i64 0, .bool false] 63 (0,0)):=(hB1.block _ (by simp)).trans (heap_alloc_new w _)
 have hB : Below w.heap.size w w1:=HB0.out.trans (hB1.mono HB0.out.size)
 have c0 : w1.cell? ⟨w.heap.size,0,none⟩ = some (.int .i64 0):=by rw [Lib.cell_of_heap hbk]; rfl
 have c1 : w1.cell? ⟨w.heap.size,1,none⟩ = some (.string ⟨#[]⟩):=by rw [Lib.cell_of_heap hbk]; rfl
 have c2 : w1.cell? ⟨w.heap.size,2,none⟩ = some (.int .i64 0):=by rw [Lib.cell_of_heap hbk]; rfl
 have c3 : w1.cell? ⟨w.heap.size,3,none⟩ = some (.int .i64 0):=by rw [Lib.cell_of_heap hbk]; rfl
 have c4 : w1.cell? ⟨w.heap.size,4,none⟩ = some (.int .i64 0):=by rw [Lib.cell_of_heap hbk]; rfl
 have c5 : w1.cell? ⟨w.heap.size,5,none⟩ = some (.bool false):=by rw [Lib.cell_of_heap hbk]; rfl
 have f0 : w1.frozen? ⟨w.heap.size,0,none⟩ = false:=Lib.frozen_of_heap hbk 0
 have f1 : w1.frozen? ⟨w.heap.size,1,none⟩ = false:=Lib.frozen_of_heap hbk 1
 have f2 : w1.frozen? ⟨w.heap.size,2,none⟩ = false:=Lib.frozen_of_heap hbk 2
 have f3 : w1.frozen? ⟨w.heap.size,3,none⟩ = false:=Lib.frozen_of_heap hbk 3
 have f4 : w1.frozen? ⟨w.heap.size,4,none⟩ = false:=Lib.frozen_of_heap hbk 4
 have f5 : w1.frozen? ⟨w.heap.size,5,none⟩ = false:=Lib.frozen_of_heap hbk 5
 clear hbk hB1
 by_cases h1 : ts.length = 1
 ·obtain ⟨x,rfl⟩ : ∃ x,ts = [x]:=List.length_eq_one_iff.1 h1
  obtain ⟨g,o',rfl, -,hcap,hmax,hg,hc⟩:=hv.cells (by simp)
  have hcap1 : 1 ≤ cap:=hcap
  unfold maxLen at hmax
  obtain ⟨d0,d1,d2,d3,d4,d5⟩:=hc 0 x rfl
  simp only [Nat.zero_mul,Nat.add_zero] at d0 d1 d2 d3 d4 d5
  obtain ⟨tx,htx⟩ : ∃ tx : ByteArray,tx = ⟨x.text.toArray⟩:=⟨_,rfl⟩
  have htl : tx.data.toList = x.text:=by rw [htx]
  rw [← htx] at d1
  have HTX:=Lib.hid htx
  have hfull:=Lx.one_full s.data.toList x HT.out.symm
  rw [size_list] at hfull
  have ho:=HO.out
  rw [size_list] at ho
  by_cases hk : x.kind = 7
  ·have t1 : ((x.kind : Int) == 7) = true:=by rw [hk]; rfl
   have hn : o = none:=by rw [ho]; simp [hk]
   subst hn
   clear hc hv htl hfull ho hk h1 htx
   go_wp2_with fail
   exact bodyPost_ret (v:=.tuple #[tokAgg 0 zeroTok, .bool false]) (by simp [results,Tryz.results76,go_sem,tokAgg,zeroTok,c0,c1,c2,c3,c4,c5]) rfl ⟨rfl,(((((hB.setCell (p:=⟨w.heap.size,0,none⟩) (Nat.le_refl _) _).setCell (p:=⟨w.heap.size,1,none⟩) (Nat.le_refl _) _).setCell (p:=⟨w.heap.size,2,none⟩) (Nat.le_refl _) _).setCell (p:=⟨w.heap.size,3,none⟩) (Nat.le_refl _) _).setCell (p:=⟨w.heap.size,4,none⟩) (Nat.le_refl _) _).setCell (p:=⟨w.heap.size,5,none⟩) (Nat.le_refl _) _⟩
  ·have t1 : ((x.kind : Int) == 7) = false:=by rw [beq_eq_false_iff_ne]; omega
   by_cases hlen : x.text.length = s.size
   ·obtain ⟨e1, -⟩:=hfull hlen
    have hst : tx = s:=by
     apply ByteArray.ext
     apply Array.toList_inj.1
     rw [htl,e1]
    have t2 : (tx.toList == s.toList) = true:=by rw [hst]; simp
    have t3 : (tx.toList != s.toList) = false:=by simp [bne,t2]
    have hn : o = some x:=by rw [ho]; simp [hk,hlen]
    subst hn
    have HST:=Lib.hid hst
    clear hc hv htl hfull ho hk h1 htx e1 hlen hst
    go_wp2_with fail
    exact bodyPost_ret (v:=.tuple #[tokAgg 0 x, .bool true]) (by simp [results,Tryz.results76,go_sem,tokAgg,HTX.out,c0,c1,c2,c3,c4,c5]) rfl ⟨rfl,(((((hB.setCell (p:=⟨w.heap.size,0,none⟩) (Nat.le_refl _) _).setCell (p:=⟨w.heap.size,1,none⟩) (Nat.le_refl _) _).setCell (p:=⟨w.heap.size,2,none⟩) (Nat.le_refl _) _).setCell (p:=⟨w.heap.size,3,none⟩) (Nat.le_refl _) _).setCell (p:=⟨w.heap.size,4,none⟩) (Nat.le_refl _) _).setCell (p:=⟨w.heap.size,5,none⟩) (Nat.le_refl _) _⟩
   ·have hst : tx ≠ s:=by
     intro e
     apply hlen
     rw [← htl,e,size_list]
    have t2 : (tx.toList == s.toList) = false:=by rw [ba_beq]; simpa using hst
    have t3 : (tx.toList != s.toList) = true:=by simp [bne,t2]
    have hn : o = none:=by rw [ho]; simp [hlen]
    subst hn
    clear hc hv htl hfull ho hk h1 htx hlen hst
    go_wp2_with fail
    exact bodyPost_ret (v:=.tuple #[tokAgg 0 zeroTok, .bool false]) (by simp [results,Tryz.results76,go_sem,tokAgg,zeroTok,c0,c1,c2,c3,c4,c5]) rfl ⟨rfl,(((((hB.setCell (p:=⟨w.heap.size,0,none⟩) (Nat.le_refl _) _).setCell (p:=⟨w.heap.size,1,none⟩) (Nat.le_refl _) _).setCell (p:=⟨w.heap.size,2,none⟩) (Nat.le_refl _) _).setCell (p:=⟨w.heap.size,3,none⟩) (Nat.le_refl _) _).setCell (p:=⟨w.heap.size,4,none⟩) (Nat.le_refl _) _).setCell (p:=⟨w.heap.size,5,none⟩) (Nat.le_refl _) _⟩
 ·have t1 : ((ts.length : Int) != 1) = true:=by simp [bne]; omega
  have t2 : ((ts.length : Int) == 1) = false:=by rw [beq_eq_false_iff_ne]; omega
  have hn : o = none:=by
   rw [HO.out]
   match ts,h1 with
   | [],_ => rfl
   | [x],h => simp at h
   | x :: y :: r,_ => rfl
  subst hn
  clear h1 hv
  go_wp2_with fail
  exact bodyPost_ret (v:=.tuple #[tokAgg 0 zeroTok, .bool false]) (by simp [results,Tryz.results76,go_sem,tokAgg,zeroTok,c0,c1,c2,c3,c4,c5]) rfl ⟨rfl,(((((hB.setCell (p:=⟨w.heap.size,0,none⟩) (Nat.le_refl _) _).setCell (p:=⟨w.heap.size,1,none⟩) (Nat.le_refl _) _).setCell (p:=⟨w.heap.size,2,none⟩) (Nat.le_refl _) _).setCell (p:=⟨w.heap.size,3,none⟩) (Nat.le_refl _) _).setCell (p:=⟨w.heap.size,4,none⟩) (Nat.le_refl _) _).setCell (p:=⟨w.heap.size,5,none⟩) (Nat.le_refl _) _⟩
end
section
namespace Ie
inductive E
 | num (n : Int)
 | bad
 | un (s : ByteArray) (x : E)
 | bin (s : ByteArray) (x y : E)
 | ask (x y z : E)
def E.isBad : E → Bool
 | .num _ => false
 | .bad => true
 | .un _ x => x.isBad
 | .bin _ x y => x.isBad || y.isBad
 | .ask x y z => x.isBad || (y.isBad || z.isBad)
def sOr : ByteArray:=⟨#[124,124]⟩
def sAnd : ByteArray:=⟨#[38,38]⟩
def sBar : ByteArray:=⟨#[124]⟩
def sHat : ByteArray:=⟨#[94]⟩
def sAmp : ByteArray:=⟨#[38]⟩
def sEq : ByteArray:=⟨#[61,61]⟩
def sNe : ByteArray:=⟨#[33,61]⟩
def sLt : ByteArray:=⟨#[60]⟩
def sGt : ByteArray:=⟨#[62]⟩
def sLe : ByteArray:=⟨#[60,61]⟩
def sGe : ByteArray:=⟨#[62,61]⟩
def sShl : ByteArray:=⟨#[60,60]⟩
def sShr : ByteArray:=⟨#[62,62]⟩
def sAdd : ByteArray:=⟨#[43]⟩
def sSub : ByteArray:=⟨#[45]⟩
def sMul : ByteArray:=⟨#[42]⟩
def sQuo : ByteArray:=⟨#[47]⟩
def sRem : ByteArray:=⟨#[37]⟩
def sNot : ByteArray:=⟨#[33]⟩
def sTil : ByteArray:=⟨#[126]⟩
def sAsk : ByteArray:=⟨#[63]⟩
def sCol : ByteArray:=⟨#[58]⟩
def sLp : ByteArray:=⟨#[40]⟩
def sRp : ByteArray:=⟨#[41]⟩
def isS (t : K) (s : ByteArray) : Bool:=decide (t.kind = 5) && decide (t.text = s)
def lvS (s : ByteArray) : Nat :=
 if s = sOr then 1 else if s = sAnd then 2 else if s = sBar then 3 else if s = sHat then 4 else if s = sAmp then 5
 else if s = sEq then 6 else if s = sNe then 6
 else if s = sLt then 7 else if s = sGt then 7 else if s = sLe then 7 else if s = sGe then 7
 else if s = sShl then 8 else if s = sShr then 8
 else if s = sAdd then 9 else if s = sSub then 9
 else if s = sMul then 10 else if s = sQuo then 10 else if s = sRem then 10 else 0
def lvOf (t : K) : Nat:=if t.kind = 5 then lvS t.text else 0
def dig (c : UInt8) : Nat :=
 if 48 ≤ c ∧ c ≤ 57 then c.toNat - 48 else if 97 ≤ c ∧ c ≤ 102 then c.toNat - 87 else if 65 ≤ c ∧ c ≤ 70 then c.toNat - 55 else 99
def sfxs : List (List UInt8) :=
 [[],[117],[85],[108],[76],[108,108],[76,76],[117,108],[117,76],[117,108,108],[117,76,76],[85,108],[85,76],[85,108,108],[85,76,76],
 [108,117],[108,85],[76,117],[76,85],[108,108,117],[108,108,85],[76,76,117],[76,76,85]]
def isSfx (l : List UInt8) : Bool:=sfxs.contains l
def start (l : List UInt8) : Nat × Nat :=
 match l with
 | [] => (0,10)
 | [c] => if c = 48 then (0,8) else (0,10)
 | c :: d :: _ => if c = 48 then (if d = 120 ∨ d = 88 then (2,16) else (0,8)) else (0,10)
def most : Nat:=9223372036854775807
def val (base : Nat) (l : List UInt8) : Nat:=l.foldl (fun n c => n * base + dig c) 0
def digs (base : Nat) (l : List UInt8) : List UInt8:=l.takeWhile fun c => decide (dig c < base)
def number (l : List UInt8) : Option Nat :=
 let b:=(start l).2
 let r:=l.drop (start l).1
 let ds:=digs b r
 if ds = [] then none else if !isSfx (r.drop ds.length) then none else if most < val b ds then none else some (val b ds)
def esc (c : UInt8) : Option Nat :=
 if c = 110 then some 10 else if c = 116 then some 9 else if c = 114 then some 13 else if c = 48 then some 0 else if c = 97 then some 7 else if c = 98 then some 8
 else if c = 102 then some 12 else if c = 118 then some 11 else if c = 92 then some 92 else if c = 39 then some 39 else if c = 34 then some 34 else if c = 63 then some 63 else none
def quote : List UInt8 → Option Nat
 | [a,b,c] => if a = 39 ∧ c = 39 ∧ b ≠ 92 then some b.toNat else none
 | [a,b,c,d] => if a = 39 ∧ d = 39 ∧ b = 92 then esc c else none
 | _ => none
abbrev Rd:=List K → Option (E × List K)
def more (next : Rd) (lv : Nat) : Nat → E → Rd
 | 0,x,l => some (x,l)
 | _ + 1,x,[] => some (x,[])
 | f + 1,x,t :: r =>
  if lvOf t = lv then
   match next r with
   | none => none
   | some (y,l') => more next lv f (.bin t.text x y) l'
  else some (x,t :: r)
def level (next : Rd) (lv : Nat) : Rd:=fun l =>
 match next l with
 | none => none
 | some (x,l') => more next lv l'.length x l'
def levels (op : Rd) : Nat → Rd
 | 0 => op
 | k + 1 => level (levels op k) (10 - k)
def ofNum : Option Nat → E
 | none => .bad
 | some n => .num n
def isUn (s : ByteArray) : Bool:=decide (s = sAdd) || decide (s = sSub) || decide (s = sNot) || decide (s = sTil)
def shut (s : ByteArray) : Option (E × List K) → Option (E × List K)
 | some (x,t :: r) => if isS t s then some (x,r) else none
 | _ => none
def operS (o e : Rd) : Rd:=fun l =>
 match l with
 | [] => none
 | t :: r =>
  if t.kind = 2 then some (ofNum (number t.text.data.toList),r)
  else if t.kind = 3 then some (ofNum (quote t.text.data.toList),r)
  else if t.kind = 1 then some (.num 0,r)
  else if t.kind = 5 then
   if isUn t.text then
    match o r with
    | none => none
    | some (x,l') => some (.un t.text x,l')
   else if t.text = sLp then shut sRp (e r)
   else none
  else none
def exprS (o e : Rd) : Rd:=fun l =>
 match levels o 10 l with
 | none => none
 | some (x,l') =>
  match l' with
  | [] => some (x,[])
  | u :: r =>
   if isS u sAsk then
    match shut sCol (e r) with
    | none => none
    | some (y,r2) =>
     match e r2 with
     | none => none
     | some (z,r3) => some (.ask x y z,r3)
   else some (x,u :: r)
def both : Nat → Rd × Rd
 | 0 => (fun _ => none,fun _ => none)
 | d + 1 => (operS (both d).1 (both d).2,exprS (operS (both d).1 (both d).2) (both d).2)
def oper (d : Nat) : Rd:=(both d).1
def expr (d : Nat) : Rd:=(both d).2
def one (b : Bool) : Int:=if b then 1 else 0
def w64 (n : Int) : Int:=IntKind.i64.wrap n
def bits (f : BitVec 64 → BitVec 64 → BitVec 64) (a b : Int) : Int:=w64 (f (BitVec.ofInt 64 a) (BitVec.ofInt 64 b)).toNat
def two (s : ByteArray) (a b : Int) : Int × Int :=
 if s = sOr then (one (decide (b ≠ 0)),0) else if s = sAnd then (one (decide (b ≠ 0)),0)
 else if s = sBar then (bits (· ||| ·) a b,0) else if s = sHat then (bits (· ^^^ ·) a b,0) else if s = sAmp then (bits (· &&& ·) a b,0)
 else if s = sEq then (one (decide (a = b)),0) else if s = sNe then (one (decide (a ≠ b)),0)
 else if s = sLt then (one (decide (a < b)),0) else if s = sGt then (one (decide (b < a)),0)
 else if s = sLe then (one (decide (a ≤ b)),0) else if s = sGe then (one (decide (b ≤ a)),0)
 else if s = sAdd then (w64 (a + b),0) else if s = sSub then (w64 (a - b),0) else if s = sMul then (w64 (a * b),0)
 else if s = sShl then (if b < 0 ∨ 63 < b then (0,93) else (w64 (a * 2 ^ b.toNat),0))
 else if s = sShr then (if b < 0 ∨ 63 < b then (0,93) else (a / 2 ^ b.toNat,0))
 else if b = 0 then (0,92)
 else if s = sQuo then (w64 (a.tdiv b),0) else (a.tmod b,0)
def una (s : ByteArray) (a : Int) : Int:=if s = sSub then w64 (0 - a) else if s = sNot then one (decide (a = 0)) else if s = sTil then w64 (-1 - a) else a
def early (s : ByteArray) (a : Int) : Option Int:=if s = sOr ∧ a ≠ 0 then some 1 else if s = sAnd ∧ a = 0 then some 0 else none
def comes : E → Int × Int
 | .num n => (n,0)
 | .bad => (0,0)
 | .un s x => if (comes x).2 ≠ 0 then (0,(comes x).2) else (una s (comes x).1,0)
 | .bin s x y =>
  if (comes x).2 ≠ 0 then (0,(comes x).2)
  else match early s (comes x).1 with
   | some n => (n,0)
   | none => if (comes y).2 ≠ 0 then (0,(comes y).2) else two s (comes x).1 (comes y).1
 | .ask x y z =>
  if (comes x).2 ≠ 0 then (0,(comes x).2) else if (comes x).1 ≠ 0 then comes y else comes z
def inLine (l : List K) : List K:=l.filter fun t => decide (t.kind ≠ 7)
def eval (l : List K) : Int × Int :=
 match expr 61 (inLine l) with
 | some (x,[]) => if x.isBad then (0,91) else comes x
 | _ => (0,90)
end Ie
end
end Go.Proofs.YthekfpgegiffoaaGreatDoor
