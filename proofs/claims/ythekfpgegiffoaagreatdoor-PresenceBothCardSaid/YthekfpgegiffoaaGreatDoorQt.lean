/- What is proved: what own tells: the set of the names that a line has. (and what stands with it) -/
import Derived.Test.YthekfpgegiffoaaGreatDoorQs
import Derived.Test.YthekfpgegiffoaaGreatDoorProg
import Derived.WalkKit
import Derived.WalkSpells
import Derived.WalkLawsBesides
import Derived.Laws.StructEq
import Derived.Lib.Hide
import Derived.MapKept
import Derived.Deep.Draws
import Derived.Deep.AppendLies
import Derived.Deep.QuietTactic
import Derived.BigQuiet
import Derived.RegionTactic
import Derived.Deep.RegionLaw
import Derived.StillTailTactics
import Derived.Maps.AppendAt
import Derived.OwnWalk
import Derived.Deep.RegionHeld3
set_option linter.unusedSimpArgs false
set_option linter.unusedVariables false
set_option maxHeartbeats 16000000
set_option maxRecDepth 100000
namespace Go.Proofs.YthekfpgegiffoaaGreatDoor
section
open Go.RowKit Go.Shelf
namespace Pm
theorem words_snoc (l : List K) (t : K) : words (l ++ [t]) = words l ++ if t.kind = 1 ∧ ¬ t.text = Ie.DEF then [t.text] else []:=by
 unfold words
 rw [List.filterMap_append]
 by_cases h : t.kind = 1 ∧ ¬ t.text = Ie.DEF
 ·simp [h]
 ·simp [h]
theorem words_len (l : List K) : (words l).length ≤ l.length:=List.length_filterMap_le _ _
def ownV (ns : List ByteArray) (l : List K) : Int × Int:=if (words l).all (Wo.has ns) then ((own ns l : Nat),0) else (0,120)
end Pm
theorem own_any (p x : Nat) (nv tv : Value) (ns : List ByteArray) (l : List K) (w : World) (hn : Sts w nv ns) (ht : Ks w tv l) (h8 : ns.length ≤ 8) (hl : l.length ≤ 1000000) :
  Calls Tryz.prog 68 #[questV p nv tv x] w fun e w' => e = .returned (.tuple #[.int .i64 (Pm.ownV ns l).1, .int .i64 (Pm.ownV ns l).2]) ∧ Below w.heap.size w w':=by
 obtain ⟨i0,hi,hz0,hz1,hz2⟩:=info_parts infoStr
 obtain ⟨nad,ncap,rfl,nc1,nc2, -⟩:=id hn
 obtain ⟨tad,tcap,rfl,tc1,tc2, -⟩:=id ht
 obtain ⟨R,hR⟩ : ∃ R,R = Pm.ownV ns l:=⟨_,rfl⟩
 rw [← hR]
 obtain ⟨N,hNN⟩ : ∃ N,N = ns.length:=⟨_,rfl⟩
 obtain ⟨L,hLL⟩ : ∃ L,L = l.length:=⟨_,rfl⟩
 rw [← hNN] at hn nc1 h8 ⊢
 rw [← hLL] at ht tc1 hl ⊢
 obtain ⟨W,hW⟩ : ∃ W,W = w.alloc (.cells #[.pointer (some ⟨p,0,none⟩), .slice nad N ncap, .slice tad L tcap, .int .i64 (x : Int)] 86):=⟨_,rfl⟩
 have hB0 : Below w.heap.size w W:=by rw [hW]; exact (Below.refl _ w).alloc (Nat.le_refl _) _
 have hbx : W.heap[w.heap.size]? = some (.cells #[.pointer (some ⟨p,0,none⟩), .slice nad N ncap, .slice tad L tcap, .int .i64 (x : Int)] 86 (0,0)):=by rw [hW]; exact heap_alloc_new w _
 have hWs : W.heap.size = w.heap.size + 1:=by rw [hW]; simp
 have HN:=Lib.hid (hn.below hB0)
 have HT:=Lib.hid (ht.below hB0)
 have HBX:=Lib.hid hbx
 have HB0:=Lib.hid hB0
 have HR:=Lib.hid hR
 have HNN:=Lib.hid hNN
 have HLL:=Lib.hid hLL
 have HWS:=Lib.hid hWs
 unfold maxLen at tc2
 unfold questV
 go_enter Tryz.func68,Tryz.ntmps68
 have HW:=Lib.hid hW
 clear hn ht hR hNN hLL hB0 hbx hW hWs
 go_wp2_with fail
 rw [← HW.out]
 go_loopw [4,12] (fun o a wr => ∃ k : Nat,a = .int .i64 k ∧ k ≤ L ∧ wr.ownsRow W.heap.size 9 1 o (Pm.words (l.take k)).length (strCells (Pm.words (l.take k))) ∧ Below W.heap.size W wr) (fun _ a _ => L - (intOf a).toNat)
 case atStart => exact ⟨0,rfl,Nat.zero_le _,World.ownsRow_nil _ _ _ _,Below.refl _ _⟩
 case round =>
  obtain ⟨k,rfl,hk,hrow,hB⟩:=hrel
  by_cases hlt : k < L
  ·obtain ⟨t,htk⟩ : ∃ t,l[k]? = some t:=⟨_,List.getElem?_eq_getElem (by rw [← HLL.out]; exact hlt)⟩
   have hk2:=HT.out.below hB
   rw [show L = l.length from HLL.out] at hk2
   obtain ⟨g,o',rfl, -, -, -, -,hc⟩:=hk2.cells (by rw [← HLL.out]; omega)
   obtain ⟨d0,d1,d2,d3,d4,d5⟩:=hc k t htk
   have htl : l.take (k + 1) = l.take k ++ [t]:=by
    obtain ⟨h1,h2⟩:=List.getElem?_eq_some_iff.1 htk
    rw [List.take_succ_eq_append_getElem h1,h2]
   have hw1:=Pm.words_snoc (l.take k) t
   rw [← htl] at hw1
   have hwl:=Pm.words_len (l.take k)
   rw [List.length_take] at hwl
   obtain ⟨m,hm⟩ : ∃ m,m = (Pm.words (l.take k)).length:=⟨_,rfl⟩
   rw [← hm] at hrow hwl
   have hwl2 : m ≤ 1000000:=by omega
   have HW1:=Lib.hid hw1
   have HM:=Lib.hid hm
   have HROW:=Lib.hid hrow
   have HB:=Lib.hid hB
   have hsz:=hB.size
   obtain ⟨kd,tx,tf,fr,en,bl⟩:=t
   dsimp only at d0 d1 d2 d3 d4 d5 HW1
   have z1 : (0 : Int) ≤ k:=by omega
   have z2 : (k : Int) < L:=by omega
   clear htk hk2 hc htl hw1 hwl hm hrow hB
   have hA : Below wr.heap.size wr (wr.alloc (.cells #[.int .i64 kd, .string tx, .int .i64 tf, .int .i64 fr, .int .i64 en, .bool bl] 63)):=(Below.refl _ _).alloc (Nat.le_refl _) _
   have HA:=Lib.hid hA
   clear hA
   by_cases h1 : kd = 1 ∧ ¬ tx = Ie.DEF
   ·obtain ⟨rfl,h2⟩:=h1
    have e1 : (tx.toList == [100,101,102,105,110,101,100]) = false:=lit_no h2
    have hw2:=HW1.out
    rw [if_pos ⟨rfl,h2⟩] at hw2
    have HW2:=Lib.hid hw2
    have hA2:=HA.out.alloc HA.out.size (.cells #[.string tx] 9)
    have HROW2:=Lib.hid ((HROW.out.alloc (.cells #[.int .i64 1, .string tx, .int .i64 tf, .int .i64 fr, .int .i64 en, .bool bl] 63)).alloc (.cells #[.string tx] 9))
    have HA2:=Lib.hid hA2
    clear h2 hw2 hA2
    go_wp2_with (at_builtin; refine wpList_append_lies _ rfl _ _ 22 rfl W.heap.size 9 i0 _ 1 16 Tryz.underlying22 hi hz0 hz1 hz2 rfl (by decide) _ m (strCells (Pm.words (l.take k))) rfl HROW2.out ⟨wr.heap.size + 1,0,none⟩ 1 1 (strCells [tx]) rfl rfl (World.news_of_block (cs:=#[.string tx]) (t:=9) (fr:=(0,0)) (heap_alloc2_new wr _ _)) (by simp [Value.oneCell',strCells]) (by decide) (by unfold maxLen; omega) (by omega) (by simp; omega) _ rfl ?_; intro gg cap' w7 hown7 hgrow hat hlt7)
    have hfin : w7.ownsRow W.heap.size 9 1 (.slice (some ⟨gg,0,none⟩) (m + 1) cap') (Pm.words (l.take (k + 1))).length (strCells (Pm.words (l.take (k + 1)))) ∧ Below W.heap.size W w7:=by
     rw [HW2.out,strCells_append,List.length_append,← HM.out]
     exact ⟨hown7,(Below.then HB.out HA2.out).grown hgrow (by have:=HA2.out.size; omega) fun i e => by have:=(HROW.out.lt i e).1; omega⟩
    have HF:=Lib.hid hfin
    clear hfin hown7 hgrow hat hlt7
    go_wp2_with fail
    go_roundw
    case rel => exact ⟨k + 1,by go_num,by omega,HF.out.1,HF.out.2⟩
    case measure => simp [intOf]; omega
   ·have hw2:=HW1.out
    rw [if_neg h1,List.append_nil] at hw2
    have hfin : (wr.alloc (.cells #[.int .i64 kd, .string tx, .int .i64 tf, .int .i64 fr, .int .i64 en, .bool bl] 63)).ownsRow W.heap.size 9 1 u4 (Pm.words (l.take (k + 1))).length (strCells (Pm.words (l.take (k + 1)))) ∧ Below W.heap.size W (wr.alloc (.cells #[.int .i64 kd, .string tx, .int .i64 tf, .int .i64 fr, .int .i64 en, .bool bl] 63)):=by
     rw [hw2,← HM.out]
     exact ⟨HROW.out.alloc _,Below.then HB.out HA.out⟩
    have HF:=Lib.hid hfin
    clear hw2 hfin
    have hcases : (kd = 1 ∧ tx = Ie.DEF) ∨ ¬ kd = 1:=by
     by_cases h2 : kd = 1
     ·exact .inl ⟨h2,Classical.byContradiction fun h3 => h1 ⟨h2,h3⟩⟩
     ·exact .inr h2
    clear h1
    rcases hcases with ⟨rfl,rfl⟩ | h2
    ·have e1 : (Ie.DEF.toList == [100,101,102,105,110,101,100]) = true:=lit_yes rfl
     go_wp2_with fail
     go_roundw
     case rel => exact ⟨k + 1,by go_num,by omega,HF.out.1,HF.out.2⟩
     case measure => simp [intOf]; omega
    ·go_wp2_with fail
     go_roundw
     case rel => exact ⟨k + 1,by go_num,by omega,HF.out.1,HF.out.2⟩
     case measure => simp [intOf]; omega
  ·obtain rfl : k = L:=by omega
   rw [List.take_of_length_le (by rw [← HLL.out]; exact Nat.le_refl _)] at hrow
   have hsts:=Sts.of_row hrow
   obtain ⟨wad,wn,wcap,rfl⟩ : ∃ a n c,u4 = .slice a n c:=by
    rcases hrow.2 with ⟨h',_⟩ | ⟨g',cap',cur,h',_⟩
    ·exact ⟨_,_,_,h'⟩
    ·exact ⟨_,_,_,h'⟩
   have hbx2:=(hB.block _ (lt_of_heap HBX.out)).trans HBX.out
   have q1 : wr.cell? ⟨w.heap.size,1,none⟩ = some (.slice nad N ncap):=(Lib.cell_of_heap hbx2 1).trans rfl
   have KS:=Lib.hid (wset_any (.slice nad N ncap) (.slice wad wn wcap) ns (Pm.words l) wr (HN.out.below hB) hsts)
   have HB:=Lib.hid (HB0.out.trans (hB.mono HB0.out.size))
   clear hrow hsts hbx2 hB
   go_wp2_with fail
   refine KS.out.mono ?_
   rintro e w2 ⟨rfl,rfl⟩
   have hsv : Wo.setV ns (Pm.words l) = if (Pm.words l).all (Wo.has ns) then (((Wo.bitsOf ns (Pm.words l) : Nat) : Int),(0 : Int)) else (0,60):=by unfold Wo.setV; rw [if_neg (by rw [← HNN.out]; omega)]
   cases ha : (Pm.words l).all (Wo.has ns) with
   | true =>
    rw [ha,if_pos rfl] at hsv
    rw [hsv]
    have hr : R = (((Pm.own ns l : Nat) : Int),(0 : Int)):=by rw [HR.out]; unfold Pm.ownV; rw [ha,if_pos rfl]
    have HR2:=Lib.hid hr
    clear hr hsv ha
    go_wp2_with fail
    rw [HR2.out]
    go_ret2
    exact ⟨rfl,HB.out⟩
   | false =>
    rw [ha,if_neg (by decide)] at hsv
    rw [hsv]
    have hr : R = (0,120):=by rw [HR.out]; unfold Pm.ownV; rw [ha,if_neg (by decide)]
    have HR2:=Lib.hid hr
    clear hr hsv ha
    go_wp2_with fail
    rw [HR2.out]
    go_ret2
    exact ⟨rfl,HB.out⟩
end
namespace Bd
abbrev Dec:=Nat × Nat × Nat
def dec (ds : List Dec) (n : Nat) : Dec:=ds.getD (n - 2) (0,0,0)
def top (ds : List Dec) (n : Nat) : Nat:=if n < 2 then 0 else (dec ds n).1 + 1
def sem (ds : List Dec) : Nat → Nat → (Nat → Bool) → Bool
  | 0,n,_ => n == 1
  | k + 1,n,a => if n < 2 then n == 1 else sem ds k (if a (dec ds n).1 then (dec ds n).2.2 else (dec ds n).2.1) a
def S (ds : List Dec) (n : Nat) (a : Nat → Bool) : Bool:=sem ds n n a
structure WF (vars : Nat) (ds : List Dec) : Prop where
  name : ∀ n,2 ≤ n → n < ds.length + 2 → (dec ds n).1 < vars
  lo : ∀ n,2 ≤ n → n < ds.length + 2 → (dec ds n).2.1 < n
  hi : ∀ n,2 ≤ n → n < ds.length + 2 → (dec ds n).2.2 < n
  ne : ∀ n,2 ≤ n → n < ds.length + 2 → (dec ds n).2.1 ≠ (dec ds n).2.2
  tlo : ∀ n,2 ≤ n → n < ds.length + 2 → top ds (dec ds n).2.1 ≤ (dec ds n).1
  thi : ∀ n,2 ≤ n → n < ds.length + 2 → top ds (dec ds n).2.2 ≤ (dec ds n).1
  one : ∀ n m,2 ≤ n → n < ds.length + 2 → 2 ≤ m → m < ds.length + 2 → dec ds n = dec ds m → n = m
theorem wf_nil (vars : Nat) : WF vars []:=by
  constructor <;> intros <;> simp at * <;> omega
variable {vars : Nat} {ds : List Dec}
theorem sem_fuel (h : WF vars ds) : ∀ (k n : Nat) (a : Nat → Bool),n ≤ k → n < ds.length + 2 → sem ds k n a = S ds n a:=by
  intro k
  induction k using Nat.strongRecOn with
  | ind k ih =>
    intro n a hk hn
    rcases Nat.lt_or_ge n 2 with h2 | h2
    · unfold S
      cases k with
      | zero => have : n = 0:=by omega
                subst this; rfl
      | succ k =>
        cases n with
        | zero => simp [sem]
        | succ n => simp [sem,h2]
    · obtain ⟨k,rfl⟩ : ∃ j,k = j + 1:=⟨k - 1,by omega⟩
      obtain ⟨n',rfl⟩ : ∃ j,n = j + 1:=⟨n - 1,by omega⟩
      unfold S
      simp only [sem,if_neg (show ¬ n' + 1 < 2 by omega)]
      have hl:=h.lo (n' + 1) h2 hn
      have hh:=h.hi (n' + 1) h2 hn
      generalize hc : (if a (dec ds (n' + 1)).1 = true then (dec ds (n' + 1)).2.2 else (dec ds (n' + 1)).2.1) = c
      have hcn : c ≤ n':=by subst hc; split <;> omega
      rw [ih k (by omega) c a (by omega) (by omega)]
      by_cases e : n' = k
      · subst e; rw [ih n' (by omega) c a (by omega) (by omega)]
      · rw [ih n' (by omega) c a hcn (by omega)]
theorem S_lt2 {n : Nat} (h : n < 2) (a : Nat → Bool) : S ds n a = (n == 1):=by
  unfold S
  cases n with
  | zero => rfl
  | succ n => simp [sem,h]
theorem S_ge2 (h : WF vars ds) {n : Nat} (h2 : 2 ≤ n) (hn : n < ds.length + 2) (a : Nat → Bool) :
    S ds n a = S ds (if a (dec ds n).1 then (dec ds n).2.2 else (dec ds n).2.1) a:=by
  have hl:=h.lo n h2 hn
  have hh:=h.hi n h2 hn
  obtain ⟨n',rfl⟩ : ∃ j,n = j + 1:=⟨n - 1,by omega⟩
  conv => lhs; unfold S
  simp only [sem,if_neg (show ¬ n' + 1 < 2 by omega)]
  exact sem_fuel h _ _ _ (by split <;> omega) (by split <;> omega)
theorem S_congr (h : WF vars ds) : ∀ (n : Nat) (a b : Nat → Bool),n < ds.length + 2 → (∀ i,i < top ds n → a i = b i) → S ds n a = S ds n b:=by
  intro n
  induction n using Nat.strongRecOn with
  | ind n ih =>
    intro a b hn hab
    rcases Nat.lt_or_ge n 2 with h2 | h2
    · rw [S_lt2 h2,S_lt2 h2]
    · have ht : top ds n = (dec ds n).1 + 1:=if_neg (by omega)
      rw [S_ge2 h h2 hn a,S_ge2 h h2 hn b,← hab _ (by omega)]
      split
      · exact ih _ (h.hi n h2 hn) a b (by have:=h.hi n h2 hn; omega) fun i hi => hab i (by have:=h.thi n h2 hn; omega)
      · exact ih _ (h.lo n h2 hn) a b (by have:=h.lo n h2 hn; omega) fun i hi => hab i (by have:=h.tlo n h2 hn; omega)
def upd (a : Nat → Bool) (i : Nat) (v : Bool) : Nat → Bool:=fun j => if j = i then v else a j
theorem upd_same (a : Nat → Bool) (i : Nat) (v : Bool) : upd a i v i = v:=by simp [upd]
theorem upd_other (a : Nat → Bool) {i j : Nat} (v : Bool) (h : j ≠ i) : upd a i v j = a j:=by simp [upd,h]
theorem S_upd (h : WF vars ds) {n i : Nat} (hn : n < ds.length + 2) (hi : top ds n ≤ i) (a : Nat → Bool) (v : Bool) : S ds n (upd a i v) = S ds n a :=
  S_congr h n _ _ hn fun j hj => upd_other a v (by omega)
theorem S_lo (h : WF vars ds) {n : Nat} (h2 : 2 ≤ n) (hn : n < ds.length + 2) (a : Nat → Bool) : S ds (dec ds n).2.1 a = S ds n (upd a (dec ds n).1 false):=by
  rw [S_ge2 h h2 hn,upd_same,if_neg (by simp),S_upd h (by have:=h.lo n h2 hn; omega) (h.tlo n h2 hn)]
theorem S_hi (h : WF vars ds) {n : Nat} (h2 : 2 ≤ n) (hn : n < ds.length + 2) (a : Nat → Bool) : S ds (dec ds n).2.2 a = S ds n (upd a (dec ds n).1 true):=by
  rw [S_ge2 h h2 hn,upd_same,if_pos rfl,S_upd h (by have:=h.hi n h2 hn; omega) (h.thi n h2 hn)]
theorem canon (h : WF vars ds) : ∀ (k n m : Nat),n < ds.length + 2 → m < ds.length + 2 → top ds n ≤ k → top ds m ≤ k → (∀ a,S ds n a = S ds m a) → n = m:=by
  intro k
  induction k with
  | zero =>
    intro n m hn hm tn tm hs
    have h1 : n < 2:=by unfold top at tn; split at tn <;> omega
    have h2 : m < 2:=by unfold top at tm; split at tm <;> omega
    have:=hs fun _ => false
    rw [S_lt2 h1,S_lt2 h2] at this
    rw [Bool.eq_iff_iff,beq_iff_eq,beq_iff_eq] at this
    omega
  | succ k ih =>
    have key : ∀ n m,n < ds.length + 2 → m < ds.length + 2 → top ds n = k + 1 → top ds m ≤ k → (∀ a,S ds n a = S ds m a) → False:=by
      intro n m hn hm tn tm hs
      have h2 : 2 ≤ n:=by unfold top at tn; split at tn <;> omega
      have e : (dec ds n).1 = k:=by unfold top at tn; rw [if_neg (by omega)] at tn; omega
      refine h.ne n h2 hn (ih _ _ (by have:=h.lo n h2 hn; omega) (by have:=h.hi n h2 hn; omega) (by have:=h.tlo n h2 hn; omega) (by have:=h.thi n h2 hn; omega) fun a => ?_)
      rw [S_lo h h2 hn,S_hi h h2 hn,hs,hs,e,S_upd h hm tm,S_upd h hm tm]
    intro n m hn hm tn tm hs
    rcases Nat.lt_or_ge (top ds n) (k + 1) with h1 | h1
    · rcases Nat.lt_or_ge (top ds m) (k + 1) with h2 | h2
      · exact ih n m hn hm (by omega) (by omega) hs
      · exact (key m n hm hn (by omega) (by omega) fun a => (hs a).symm).elim
    · rcases Nat.lt_or_ge (top ds m) (k + 1) with h2 | h2
      · exact (key n m hn hm (by omega) (by omega) hs).elim
      · have n2 : 2 ≤ n:=by unfold top at h1; split at h1 <;> omega
        have m2 : 2 ≤ m:=by unfold top at h2; split at h2 <;> omega
        have en : (dec ds n).1 = k:=by unfold top at tn h1; rw [if_neg (by omega)] at tn h1; omega
        have em : (dec ds m).1 = k:=by unfold top at tm h2; rw [if_neg (by omega)] at tm h2; omega
        have el : (dec ds n).2.1 = (dec ds m).2.1:=ih _ _ (by have:=h.lo n n2 hn; omega) (by have:=h.lo m m2 hm; omega) (by have:=h.tlo n n2 hn; omega) (by have:=h.tlo m m2 hm; omega) fun a => by
          rw [S_lo h n2 hn,S_lo h m2 hm,hs,en,em]
        have eh : (dec ds n).2.2 = (dec ds m).2.2:=ih _ _ (by have:=h.hi n n2 hn; omega) (by have:=h.hi m m2 hm; omega) (by have:=h.thi n n2 hn; omega) (by have:=h.thi m m2 hm; omega) fun a => by
          rw [S_hi h n2 hn,S_hi h m2 hm,hs,en,em]
        exact h.one n m n2 hn m2 hm (Prod.ext (en.trans em.symm) (Prod.ext el eh))
theorem one_of_same (h : WF vars ds) {n m : Nat} (hn : n < ds.length + 2) (hm : m < ds.length + 2) (hs : ∀ a,S ds n a = S ds m a) : n = m :=
  canon h (max (top ds n) (top ds m)) n m hn hm (by omega) (by omega) hs
theorem top_le (h : WF vars ds) {n : Nat} (hn : n < ds.length + 2) : top ds n ≤ vars:=by
  unfold top
  split
  · omega
  · have:=h.name n (by omega) hn; omega
theorem dec_append {n : Nat} (ext : List Dec) (h2 : 2 ≤ n) (hn : n < ds.length + 2) : dec (ds ++ ext) n = dec ds n:=by
  unfold dec
  rw [List.getD_eq_getElem?_getD,List.getD_eq_getElem?_getD,List.getElem?_append_left (by omega)]
theorem top_append {n : Nat} (ext : List Dec) (hn : n < ds.length + 2) : top (ds ++ ext) n = top ds n:=by
  unfold top
  split
  · rfl
  · rw [dec_append ext (by omega) hn]
theorem S_append (h : WF vars ds) (ext : List Dec) (h' : WF vars (ds ++ ext)) : ∀ n,n < ds.length + 2 → ∀ a,S (ds ++ ext) n a = S ds n a:=by
  intro n
  induction n using Nat.strongRecOn with
  | ind n ih =>
    intro hn a
    rcases Nat.lt_or_ge n 2 with h2 | h2
    · rw [S_lt2 h2,S_lt2 h2]
    · rw [S_ge2 h' h2 (by simp; omega),S_ge2 h h2 hn,dec_append ext h2 hn]
      have hl:=h.lo n h2 hn
      have hh:=h.hi n h2 hn
      exact ih _ (by split <;> omega) (by split <;> omega) a
theorem dec_new (d : Dec) : dec (ds ++ [d]) (ds.length + 2) = d:=by
  unfold dec
  rw [List.getD_eq_getElem?_getD,show ds.length + 2 - 2 = ds.length by omega]
  simp
theorem wf_snoc (h : WF vars ds) {d : Dec} (hname : d.1 < vars) (hlo : d.2.1 < ds.length + 2) (hhi : d.2.2 < ds.length + 2) (hne : d.2.1 ≠ d.2.2) (tlo : top ds d.2.1 ≤ d.1) (thi : top ds d.2.2 ≤ d.1)
    (hnew : ∀ n,2 ≤ n → n < ds.length + 2 → dec ds n ≠ d) : WF vars (ds ++ [d]):=by
  have cases_ : ∀ n,n < (ds ++ [d]).length + 2 → n < ds.length + 2 ∨ n = ds.length + 2:=by
    intro n hn; simp at hn; omega
  constructor
  · intro n h2 hn
    rcases cases_ n hn with h1 | rfl
    · rw [dec_append _ h2 h1]; exact h.name n h2 h1
    · rw [dec_new]; exact hname
  · intro n h2 hn
    rcases cases_ n hn with h1 | rfl
    · rw [dec_append _ h2 h1]; exact h.lo n h2 h1
    · rw [dec_new]; exact hlo
  · intro n h2 hn
    rcases cases_ n hn with h1 | rfl
    · rw [dec_append _ h2 h1]; exact h.hi n h2 h1
    · rw [dec_new]; exact hhi
  · intro n h2 hn
    rcases cases_ n hn with h1 | rfl
    · rw [dec_append _ h2 h1]; exact h.ne n h2 h1
    · rw [dec_new]; exact hne
  · intro n h2 hn
    rcases cases_ n hn with h1 | rfl
    · rw [dec_append _ h2 h1,top_append _ (by have:=h.lo n h2 h1; omega)]; exact h.tlo n h2 h1
    · rw [dec_new,top_append _ hlo]; exact tlo
  · intro n h2 hn
    rcases cases_ n hn with h1 | rfl
    · rw [dec_append _ h2 h1,top_append _ (by have:=h.hi n h2 h1; omega)]; exact h.thi n h2 h1
    · rw [dec_new,top_append _ hhi]; exact thi
  · intro n m n2 hn m2 hm e
    rcases cases_ n hn with h1 | rfl <;> rcases cases_ m hm with h3 | rfl
    · rw [dec_append _ n2 h1,dec_append _ m2 h3] at e; exact h.one n m n2 h1 m2 h3 e
    · rw [dec_append _ n2 h1,dec_new] at e; exact (hnew n n2 h1 e).elim
    · rw [dec_append _ m2 h3,dec_new] at e; exact (hnew m m2 h3 e.symm).elim
    · rfl
structure Made (vars : Nat) (ds ds' : List Dec) (r : Nat) (g : (Nat → Bool) → Bool) (t : Nat) : Prop where
  ext : ∃ e,ds' = ds ++ e
  wf : WF vars ds'
  lt : r < ds'.length + 2
  says : ∀ a,S ds' r a = g a
  top : Bd.top ds' r ≤ t
  few : ds'.length + 1 ≤ ds.length + 2 ^ t
def decide_ (ds : List Dec) (d : Dec) : Nat × List Dec :=
  if d.2.1 = d.2.2 then (d.2.2,ds) else
  match ds.findIdx? (fun x => decide (x = d)) with
  | some i => (i + 2,ds)
  | none => (ds.length + 2,ds ++ [d])
theorem decide_made (h : WF vars ds) {d : Dec} (hname : d.1 < vars) (hlo : d.2.1 < ds.length + 2) (hhi : d.2.2 < ds.length + 2) (tlo : top ds d.2.1 ≤ d.1) (thi : top ds d.2.2 ≤ d.1) :
    WF vars (decide_ ds d).2 ∧ (∃ e,(decide_ ds d).2 = ds ++ e ∧ e.length ≤ 1) ∧ (decide_ ds d).1 < (decide_ ds d).2.length + 2 ∧ top (decide_ ds d).2 (decide_ ds d).1 ≤ d.1 + 1 ∧
      ∀ a,S (decide_ ds d).2 (decide_ ds d).1 a = if a d.1 then S ds d.2.2 a else S ds d.2.1 a:=by
  unfold decide_
  split
  · rename_i e
    exact ⟨h,⟨[],by simp,by simp⟩,hhi,by dsimp only; omega,fun a => by rw [e]; simp⟩
  · rename_i hne
    split
    · rename_i i hi
      rw [List.findIdx?_eq_some_iff_getElem] at hi
      obtain ⟨hlt,hp,_⟩:=hi
      have hd : dec ds (i + 2) = d:=by
        unfold dec
        rw [show i + 2 - 2 = i by omega,List.getD_eq_getElem?_getD,List.getElem?_eq_getElem hlt]
        simpa using hp
      refine ⟨h,⟨[],by simp,by simp⟩,by dsimp only; omega,?_,fun a => ?_⟩
      · dsimp only
        unfold top
        rw [if_neg (by omega),hd]
        omega
      · dsimp only
        rw [S_ge2 h (by omega) (by omega),hd]
        split <;> rfl
    · rename_i hi
      rw [List.findIdx?_eq_none_iff] at hi
      have hw:=wf_snoc h hname hlo hhi hne tlo thi (by
        intro n h2 hn e
        have hm : ds[n - 2] ∈ ds:=List.getElem_mem (by omega)
        have:=hi _ hm
        unfold dec at e
        rw [List.getD_eq_getElem?_getD,List.getElem?_eq_getElem (by omega)] at e
        simp at e this
        exact this e)
      refine ⟨hw,⟨[d],rfl,by simp⟩,by simp,?_,fun a => ?_⟩
      · dsimp only
        unfold top
        rw [if_neg (by omega),dec_new]
        omega
      · dsimp only
        rw [S_ge2 hw (by omega) (by simp),dec_new]
        split
        · exact S_append h _ hw _ hhi a
        · exact S_append h _ hw _ hlo a
end Bd
namespace Bdd
open Go.RowKit Bd
def keyOf (d : Dec) : Value:=.agg #[.int .i64 d.1, .int .i64 d.2.1, .int .i64 d.2.2]
theorem run_checkKey67 (e : Bool) (a b c : Int) (w : World) : (Instr.checkKey e 10000 92 (.agg #[.int .i64 a, .int .i64 b, .int .i64 c])).run Tryz.prog w = .ok () w:=by kernel_rfl
theorem stood67 : Tryz.prog.stoodInHeld 92 = false:=by kernel_rfl
theorem part67a (a b c : Int) (w : World) : (part 3 #[.int .i64 a, .int .i64 b, .int .i64 c] 0).run Tryz.prog w = .ok (.int .i64 a) w:=by kernel_rfl
theorem part67b (a b c : Int) (w : World) : (part 39 #[.int .i64 a, .int .i64 b, .int .i64 c] 1).run Tryz.prog w = .ok (.int .i64 b) w:=by kernel_rfl
theorem part67c (a b c : Int) (w : World) : (part 39 #[.int .i64 a, .int .i64 b, .int .i64 c] 2).run Tryz.prog w = .ok (.int .i64 c) w:=by kernel_rfl
theorem eq3 (d : Nat) (a b : Int) (w : World) : (Op.equalIn (d + 1) 3 (.int .i64 a) (.int .i64 b)).run Tryz.prog w = .ok (a == b) w:=by kernel_rfl
theorem eq35 (d : Nat) (a b : Int) (w : World) : (Op.equalIn (d + 1) 39 (.int .i64 a) (.int .i64 b)).run Tryz.prog w = .ok (a == b) w:=by kernel_rfl
theorem run_equal67 (a b c a' b' c' : Int) (w : World) :
  (Op.equal 92 (.agg #[.int .i64 a, .int .i64 b, .int .i64 c]) (.agg #[.int .i64 a', .int .i64 b', .int .i64 c'])).run Tryz.prog w = .ok (decide (a = a' ∧ b = b' ∧ c = c')) w:=by
 show (Op.equalIn (9998 + 1 + 1) 92 _ _).run Tryz.prog w = _
 rw [run_equalIn_struct w (9998 + 1) 92 _ _ (by simp [Program.fieldsOf,Tryz.underlying92]) stood67]
 simp only [Program.fieldsOf,Tryz.underlying92,Op.eqFields,Sem.run_bind,part67a,part67b,part67c,eq3,eq35,Result.andThen_ok,Sem.run_ite,Sem.run_pure]
 by_cases h1 : a = a' <;> by_cases h2 : b = b' <;> by_cases h3 : c = c' <;> simp [h1,h2,h3]
def entry (i : Nat) (d : Dec) : MapEntry:={ key:=keyOf d,val:=.int .i64 ((i : Int) + 2),born:=i }
def entriesOf (ds : List Dec) : Array MapEntry:=(ds.mapIdx entry).toArray
theorem dec_eq_iff (d e : Dec) : ((d.1 : Int) = e.1 ∧ (d.2.1 : Int) = e.2.1 ∧ (d.2.2 : Int) = e.2.2) ↔ e = d:=by
 obtain ⟨a,b,c⟩:=d
 obtain ⟨a',b',c'⟩:=e
 simp only [Prod.mk.injEq]
 omega
theorem run_findAsking (d : Dec) (w : World) : ∀ (ds : List Dec) (j : Nat) (k : Nat),(Instr.findAsking 92 (keyOf d) (ds.mapIdx fun i x => entry (i + k) x) j).run Tryz.prog w =
  .ok ((ds.findIdx? (fun x => decide (x = d))).map fun i => (i + j, .int .i64 (((i + k : Nat) : Int) + 2))) w:=by
 intro ds
 induction ds with
 | nil => intro j k; rfl
 | cons x ds ih =>
  intro j k
  rw [List.mapIdx_cons]
  unfold Instr.findAsking
  have he : (Op.equal 92 (keyOf d) (entry (0 + k) x).key).run Tryz.prog w = .ok (decide (x = d)) w:=by
   show (Op.equal 92 (keyOf d) (keyOf x)).run Tryz.prog w = _
   unfold keyOf
   rw [run_equal67]
   congr 1
   exact decide_eq_decide.2 (dec_eq_iff d x)
  rw [Sem.run_bind,he,Result.andThen_ok,Sem.run_ite]
  by_cases hx : x = d
  ·simp [hx,List.findIdx?_cons,entry]
  ·have:=ih (j + 1) (k + 1)
   simp only [hx,decide_false,Bool.false_eq_true,if_false,List.findIdx?_cons]
   rw [show (fun i => entry (i + 1 + k)) = fun i => entry (i + (k + 1)) from by funext i; rw [Nat.add_assoc,Nat.add_comm 1 k],this]
   simp only [Option.map_map]
   congr 2
   funext i
   simp only [Function.comp,Prod.mk.injEq,Value.int.injEq,true_and]
   omega
theorem sameNow67 (d : Dec) (e : MapEntry) (fs : Array Field) : Instr.sameNow (.struct fs) (keyOf d) e.key = none:=by
 unfold keyOf Instr.sameNow; rfl
theorem run_findKey (d : Dec) (ds : List Dec) (w : World) : (Instr.findKey 92 (keyOf d) (entriesOf ds).toList).run Tryz.prog w =
  .ok ((ds.findIdx? (fun x => decide (x = d))).map fun i => (i, .int .i64 ((i : Int) + 2))) w:=by
 unfold Instr.findKey
 rw [Sem.run_bind,run_underlying Tryz.underlying92,Result.andThen_ok]
 unfold entriesOf
 simp only
 have h:=run_findAsking d w ds 0 0
 simp only [Nat.add_zero] at h
 cases ds with
 | nil => rfl
 | cons x ds =>
  rw [List.mapIdx_cons] at h ⊢
  unfold Instr.findNow
  rw [sameNow67]
  exact h
theorem run_lookup72 (d : Dec) (ds : List Dec) (c m : Nat) (w : World) (hm : w.heap[m]? = some (.map (entriesOf ds) c)) :
  (Instr.lookup 67 (.map (some m)) (keyOf d) true).run Tryz.prog w =
   .ok (match ds.findIdx? (fun x => decide (x = d)) with | some i => .tuple #[.int .i64 ((i : Int) + 2), .bool true] | none => .tuple #[.int .i64 0, .bool false]) w:=by
 have hz : (zeroValue 39).run Tryz.prog w = .ok (.int .i64 0) w:=by kernel_rfl
 have hg:=run_getObj_map (P:=Tryz.prog) w m _ _ hm
 have hk:=run_checkKey67 (entriesOf ds).isEmpty d.1 d.2.1 d.2.2 w
 have hf:=run_findKey d ds w
 unfold Instr.lookup
 simp only [Sem.run_bind,run_underlying Tryz.underlying67,Result.andThen_ok,hg,Sem.run_pure]
 unfold keyOf at hf ⊢
 rw [hk,Result.andThen_ok,hf,Result.andThen_ok]
 cases ds.findIdx? (fun x => decide (x = d)) with
 | some i => simp
 | none => simp [hz]
def setB (w : World) (m : Nat) (o : Obj) : World:={ w with heap:=w.heap.setIfInBounds m o }
theorem setB_size (w : World) (m : Nat) (o : Obj) : (setB w m o).heap.size = w.heap.size:=by simp [setB]
theorem setB_same {w : World} {m : Nat} (o : Obj) (h : m < w.heap.size) : (setB w m o).heap[m]? = some o:=by simp [setB,h]
theorem setB_other (w : World) {m k : Nat} (o : Obj) (h : k ≠ m) : (setB w m o).heap[k]? = w.heap[k]?:=by
 simp only [setB,Array.getElem?_setIfInBounds]
 rw [if_neg (by omega)]
theorem lt_of_get {w : World} {m : Nat} {o : Obj} (h : w.heap[m]? = some o) : m < w.heap.size:=by
 rcases Nat.lt_or_ge m w.heap.size with hlt | hge
 ·exact hlt
 ·rw [Array.getElem?_eq_none hge] at h; cases h
theorem entriesOf_snoc (ds : List Dec) (d : Dec) : (entriesOf ds).push (entry ds.length d) = entriesOf (ds ++ [d]):=by
 unfold entriesOf
 simp [List.mapIdx_append]
theorem run_mapUpdate72 (d : Dec) (ds : List Dec) (m : Nat) (w : World) (hm : w.heap[m]? = some (.map (entriesOf ds) ds.length)) (hnew : ds.findIdx? (fun x => decide (x = d)) = none) :
  (Instr.mapUpdate 67 (.map (some m)) (keyOf d) (.int .i64 ((ds.length : Int) + 2))).run Tryz.prog w = .ok () (setB w m (.map (entriesOf (ds ++ [d])) (ds ++ [d]).length)):=by
 have hg:=run_getObj_map (P:=Tryz.prog) w m _ _ hm
 have hk:=run_checkKey67 false d.1 d.2.1 d.2.2 w
 have hf:=run_findKey d ds w
 have hs:=Go.MapKept.run_setObj_map (P:=Tryz.prog) (.map (entriesOf (ds ++ [d])) (ds.length + 1)) hm
 rw [hnew] at hf
 unfold Instr.mapUpdate
 simp only [Sem.run_bind,run_underlying Tryz.underlying67,Result.andThen_ok,hg]
 have e : keyOf d = .agg #[.int .i64 d.1, .int .i64 d.2.1, .int .i64 d.2.2]:=rfl
 rw [← e] at hk
 rw [hk,Result.andThen_ok,hf,Result.andThen_ok]
 simp only [Option.map_none]
 rw [← entriesOf_snoc] at hs ⊢
 simp only [List.length_append,List.length_singleton]
 exact hs
def cellsOf (ds : List Dec) : List Value:=ds.flatMap fun d => [.int .i64 (d.1 : Int), .int .i64 (d.2.1 : Int), .int .i64 (d.2.2 : Int)]
theorem cellsOf_append (ds es : List Dec) : cellsOf (ds ++ es) = cellsOf ds ++ cellsOf es:=by simp [cellsOf]
theorem cellsOf_at (ds : List Dec) : ∀ (i : Nat),i < ds.length → (cellsOf ds)[i * 3]? = some (.int .i64 (dec ds (i + 2)).1) ∧ (cellsOf ds)[i * 3 + 1]? = some (.int .i64 (dec ds (i + 2)).2.1) ∧ (cellsOf ds)[i * 3 + 2]? = some (.int .i64 (dec ds (i + 2)).2.2):=by
 induction ds with
 | nil => intro i hi; simp at hi
 | cons d ds ih =>
  intro i hi
  cases i with
  | zero => simp [cellsOf,dec]
  | succ i =>
   have:=ih i (by simpa using hi)
   have e : dec (d :: ds) (i + 1 + 2) = dec ds (i + 2):=by simp [dec]
   rw [e]
   have f : cellsOf (d :: ds) = [.int .i64 (d.1 : Int), .int .i64 (d.2.1 : Int), .int .i64 (d.2.2 : Int)] ++ cellsOf ds:=rfl
   rw [f]
   rw [show (i + 1) * 3 = i * 3 + 3 from by omega,show i * 3 + 3 + 1 = i * 3 + 1 + 3 from by omega,show i * 3 + 3 + 2 = i * 3 + 2 + 3 from by omega]
   simpa using this
structure Ar (w : World) (B p m : Nat) (sv : Value) (vars : Nat) (ds : List Dec) : Prop where
 blk : w.heap[p]? = some (.cells #[.int .i64 (vars : Int),sv, .map (some m)] 70 (0,0))
 row : w.ownsRow B 92 3 sv ds.length (cellsOf ds)
 map : w.heap[m]? = some (.map (entriesOf ds) ds.length)
 hp : B ≤ p
 hm : B ≤ m
 v8 : vars ≤ 8
 wf : WF vars ds
 few : ds.length ≤ 100000000
structure Fr (p m : Nat) (sv : Value) (w : World) (sv' : Value) (w' : World) : Prop where
 os : w'.os = w.os
 tape : w'.tape = w.tape
 output : w'.output = w.output
 size : w.heap.size ≤ w'.heap.size
 blk : ∀ k,k < w.heap.size → k ≠ p → k ≠ m → sv.ownBlock ≠ some k → w'.heap[k]? = w.heap[k]?
 own : sv'.ownBlock = sv.ownBlock ∨ ∀ k,sv'.ownBlock = some k → w.heap.size ≤ k
section
variable {w w' w'' : World} {B p m vars : Nat} {sv sv' sv'' : Value} {ds : List Dec}
theorem Ar.pm (h : Ar w B p m sv vars ds) : p ≠ m:=by
 rintro rfl
 have:=h.blk
 rw [h.map] at this
 cases this
theorem Ar.kept (h : Ar w B p m sv vars ds) (hb : ∀ k,k < w.heap.size → w'.heap[k]? = w.heap[k]?) : Ar w' B p m sv vars ds:=by
 refine ⟨(hb p (lt_of_get h.blk)).trans h.blk,?_,(hb m (lt_of_get h.map)).trans h.map,h.hp,h.hm,h.v8,h.wf,h.few⟩
 refine ⟨h.row.1,?_⟩
 rcases h.row.2 with h0 | ⟨g,cap,cur,hv,hg,hh,r⟩
 ·exact .inl h0
 ·exact .inr ⟨g,cap,cur,hv,hg,(hb g (lt_of_get hh)).trans hh,r⟩
theorem Ar.below (h : Ar w B p m sv vars ds) (hb : Below w.heap.size w w') : Ar w' B p m sv vars ds:=h.kept hb.block
theorem Ar.alloc (h : Ar w B p m sv vars ds) (o : Obj) : Ar (w.alloc o) B p m sv vars ds:=h.kept fun _ hk => Below.heap_alloc _ _ _ hk
theorem Ar.drew (h : Ar w B p m sv vars ds) : Ar w.drew B p m sv vars ds:=h.kept fun _ _ => rfl
theorem Ar.c0 (h : Ar w B p m sv vars ds) : w.cell? ⟨p,0,none⟩ = some (.int .i64 (vars : Int)):=by simp [World.cell?,h.blk]
theorem Ar.c1 (h : Ar w B p m sv vars ds) : w.cell? ⟨p,1,none⟩ = some sv:=by simp [World.cell?,h.blk]
theorem Ar.c2 (h : Ar w B p m sv vars ds) : w.cell? ⟨p,2,none⟩ = some (.map (some m)):=by simp [World.cell?,h.blk]
theorem Ar.fz (h : Ar w B p m sv vars ds) (i : Nat) : w.frozen? ⟨p,i,none⟩ = false:=by simp [World.frozen?,h.blk]
theorem Ar.slice (h : Ar w B p m sv vars ds) (hn : 0 < ds.length) : ∃ g cap,sv = .slice (some ⟨g,0,none⟩) ds.length cap ∧ g < w.heap.size ∧ ds.length ≤ cap ∧
  ∀ i,i < ds.length → w.cell? ⟨g,i * 3,none⟩ = some (.int .i64 (dec ds (i + 2)).1) ∧ w.cell? ⟨g,i * 3 + 1,none⟩ = some (.int .i64 (dec ds (i + 2)).2.1) ∧ w.cell? ⟨g,i * 3 + 2,none⟩ = some (.int .i64 (dec ds (i + 2)).2.2):=by
 have hrow:=h.row
 obtain ⟨g,cap,hv,_,hlt⟩:=h.row.form hn
 subst hv
 have hc : ds.length ≤ cap:=by
  rcases hrow.2 with ⟨h0,_⟩ | ⟨g',cap',cur,hv,_,_,hcap,_⟩
  ·cases h0
  ·injection hv with _ _ e; omega
 refine ⟨g,cap,rfl,hlt,hc,fun i hi => ?_⟩
 obtain ⟨a1,a2,a3⟩:=cellsOf_at ds i hi
 exact ⟨(hrow.cellAt _ (by omega)).trans a1,(hrow.cellAt _ (by omega)).trans a2,(hrow.cellAt _ (by omega)).trans a3⟩
theorem Fr.refl (p m : Nat) (sv : Value) (w : World) : Fr p m sv w sv w:=⟨rfl,rfl,rfl,Nat.le_refl _,fun _ _ _ _ _ => rfl, .inl rfl⟩
theorem Fr.trans (h : Fr p m sv w sv' w') (k : Fr p m sv' w' sv'' w'') : Fr p m sv w sv'' w'':=by
 refine ⟨k.os.trans h.os,k.tape.trans h.tape,k.output.trans h.output,Nat.le_trans h.size k.size,fun i hi h1 h2 h3 => ?_,?_⟩
 ·refine (k.blk i (Nat.lt_of_lt_of_le hi h.size) h1 h2 ?_).trans (h.blk i hi h1 h2 h3)
  rcases h.own with e | e
  ·rw [e]; exact h3
  ·intro c; have:=e i c; omega
 ·rcases k.own with e | e
  ·rw [e]; exact h.own
  ·exact .inr fun i c => Nat.le_trans h.size (e i c)
theorem Fr.of_below (hb : Below w.heap.size w w') (p m : Nat) (sv : Value) : Fr p m sv w sv w':=⟨hb.os,hb.tape,hb.output,hb.size,fun k hk _ _ _ => hb.block k hk, .inl rfl⟩
end
end Bdd
namespace Bdd
open Go.RowKit Bd
section
variable {w : World} {B p m vars : Nat} {sv : Value} {ds : List Dec}
theorem vars_any (h : Ar w B p m sv vars ds) : Calls Tryz.prog 24 #[.pointer (some ⟨p,0,none⟩)] w fun e w' => e = .returned (.int .i64 (vars : Int)) ∧ w = w':=by
 have c0:=h.c0
 go_enter Tryz.func24,Tryz.ntmps24
 go_wp2
 go_ret
 exact ⟨rfl,rfl⟩
theorem hasName_any (h : Ar w B p m sv vars ds) (i : Int) : Calls Tryz.prog 109 #[.pointer (some ⟨p,0,none⟩), .int .i64 i] w fun e w' => e = .returned (.bool (decide (0 ≤ i ∧ i < vars))) ∧ w = w':=by
 by_cases h0 : 0 ≤ i
 ·go_enter Tryz.func109,Tryz.ntmps109
  go_wp2_with (go_at_call 24; refine (vars_any h).mono ?_; rintro e w' ⟨rfl,rfl⟩)
  go_ret
  exact ⟨by simp [h0],rfl⟩
 ·go_enter Tryz.func109,Tryz.ntmps109
  go_wp2_with fail
  go_ret
  exact ⟨by simp; omega,rfl⟩
theorem settled_any (b : Bool) (w : World) : Calls Tryz.prog 182 #[.bool b] w fun e w' => e = .returned (.int .i64 (if b then 1 else 0)) ∧ w = w':=by
 cases b
 all_goals
  go_enter Tryz.func182,Tryz.ntmps182
  go_wp2
  go_ret
  exact ⟨rfl,rfl⟩
theorem side_any (a b c : Int) (t : Bool) (w : World) : Calls Tryz.prog 41 #[.agg #[.int .i64 a, .int .i64 b, .int .i64 c], .bool t] w fun e w' => e = .returned (.int .i64 (if t then c else b)) ∧ Below w.heap.size w w':=by
 cases t
 all_goals
  go_enter Tryz.func41,Tryz.ntmps41
  go_wp2
  go_ret
  exact ⟨rfl,(Below.refl _ _).alloc (Nat.le_refl _) _⟩
theorem decision_any (h : Ar w B p m sv vars ds) (n : Nat) (h2 : 2 ≤ n) (hn : n < ds.length + 2) :
  Calls Tryz.prog 40 #[.pointer (some ⟨p,0,none⟩), .int .i64 (n : Int)] w fun e w' => e = .returned (keyOf (dec ds n)) ∧ Below w.heap.size w w':=by
 have hf:=h.few
 have c1:=h.c1
 have hpl : p < w.heap.size:=lt_of_get h.blk
 obtain ⟨i,rfl⟩ : ∃ i,n = i + 2:=⟨n - 2,by omega⟩
 obtain ⟨g,cap,rfl,hg,hcap,hc⟩:=h.slice (by omega)
 obtain ⟨a1,a2,a3⟩:=hc i (by omega)
 clear hc
 go_enter Tryz.func40,Tryz.ntmps40
 go_wp2
 refine bodyPost_ret (v:=keyOf (dec ds (i + 2))) (by simp [results,Tryz.results40,go_sem,keyOf]) rfl ⟨rfl,?_⟩
 exact (Below.refl _ _).alloc (Nat.le_refl _) _
def Nodes (w : World) (b n : Nat) (f : Nat → Int) : Prop:=b < w.heap.size ∧ ∀ i,i < n → w.cell? ⟨b,i,none⟩ = some (.int .i64 (f i))
theorem Nodes.below {w' : World} {b n : Nat} {f : Nat → Int} (h : Nodes w b n f) (hb : Below w.heap.size w w') : Nodes w' b n f :=
 ⟨Nat.lt_of_lt_of_le h.1 hb.size,fun i hi => (hb.cell (p:=⟨b,i,none⟩) h.1).trans (h.2 i hi)⟩
theorem Ar.form (h : Ar w B p m sv vars ds) : ∃ A c,sv = .slice A ds.length c:=by
 rcases h.row.2 with ⟨e,e0⟩ | ⟨g,cap,cur,e,_⟩
 ·exact ⟨none,0,by rw [e,e0]⟩
 ·exact ⟨_,_,e⟩
theorem knows_yes (h : Ar w B p m sv vars ds) (b cap n : Nat) (f : Nat → Int) (hl : n ≤ 3) (hx : Nodes w b n f) (hy : ∀ i,i < n → 0 ≤ f i ∧ f i < 2 + (ds.length : Int)) :
  Calls Tryz.prog 39 #[.pointer (some ⟨p,0,none⟩), .slice (some ⟨b,0,none⟩) n cap] w fun e w' => e = .returned (.bool true) ∧ w = w':=by
 have hf:=h.few
 have c1:=h.c1
 obtain ⟨A,c,rfl⟩:=h.form
 have HX:=Lib.hid hx
 have HY:=Lib.hid hy
 clear hx hy
 go_enter Tryz.func39,Tryz.ntmps39
 go_wp2
 go_loop [7,19] (fun _ i => ∃ k : Nat,k ≤ n ∧ i = .int .i64 k) (fun _ i => n - (intOf i).toNat)
 case atStart => exact ⟨0,Nat.zero_le _,rfl⟩
 case round =>
  obtain ⟨k,hk,rfl⟩:=hrel
  by_cases hlt : k < n
  ·have hc:=HX.out.2 k hlt
   obtain ⟨y1,y2⟩:=HY.out k hlt
   go_wp2
   go_round
   case rel => exact ⟨k + 1,by omega,by go_num⟩
   case measure => simp [intOf]; omega
  ·go_wp2
   go_ret
   exact ⟨rfl,rfl⟩
theorem run_field67a (a b c : Int) (w : World) : (Instr.field 92 (.agg #[.int .i64 a, .int .i64 b, .int .i64 c]) 0).run Tryz.prog w = .ok (.int .i64 a) w:=by kernel_rfl
def tops (ds : List Dec) (f : Nat → Nat) : Nat → Nat
 | 0 => 0
 | k + 1 => max (tops ds f k) (top ds (f k))
theorem tops_le (h : WF vars ds) (f : Nat → Nat) : ∀ n,(∀ i,i < n → f i < ds.length + 2) → tops ds f n ≤ vars:=by
 intro n
 induction n with
 | zero => intro _; simp [tops]
 | succ n ih =>
  intro hf
  have h1:=ih fun i hi => hf i (by omega)
  have h2:=top_le h (hf n (by omega))
  simp only [tops]; omega
theorem top_any (h : Ar w B p m sv vars ds) (b cap n : Nat) (f : Nat → Nat) (hl : n ≤ 3) (hx : Nodes w b n (fun i => (f i : Int))) (hy : ∀ i,i < n → f i < ds.length + 2) :
  Calls Tryz.prog 175 #[.pointer (some ⟨p,0,none⟩), .slice (some ⟨b,0,none⟩) n cap] w fun e w' => e = .returned (.int .i64 ((tops ds f n : Int) - 1)) ∧ Below w.heap.size w w':=by
 have hf:=h.few
 have HX:=Lib.hid hx
 have HY:=Lib.hid hy
 clear hx hy
 go_enter Tryz.func175,Tryz.ntmps175
 go_wp2
 go_loopw [5,7,10] (fun t _ i wr => ∃ k : Nat,k ≤ n ∧ i = .int .i64 k ∧ t = .int .i64 ((tops ds f k : Int) - 1) ∧ Below w.heap.size w wr) (fun _ _ i _ => n - (intOf i).toNat)
 case atStart => exact ⟨0,Nat.zero_le _,rfl,rfl,Below.refl _ _⟩
 case round =>
  obtain ⟨k,hk,rfl,rfl,hb⟩:=hrel
  by_cases hlt : k < n
  ·have hc:=(HX.out.below hb).2 k hlt
   have hv:=HY.out k hlt
   have hA:=h.below hb
   have ht:=tops_le h.wf f k fun i hi => HY.out i (by omega)
   have ht1:=top_le h.wf hv
   have hv8:=h.v8
   have HS : Hid (tops ds f (k + 1) = max (tops ds f k) (top ds (f k))):=rfl
   by_cases h2 : 2 ≤ f k
   ·have hd : (dec ds (f k)).1 < vars:=h.wf.name _ h2 hv
    have HT : Hid (top ds (f k) = (dec ds (f k)).1 + 1):=if_neg (by omega)
    have h2' : (2 : Int) ≤ (f k : Int):=by omega
    have hfld:=run_field67a
    go_wp2_with (go_at_call 40; refine (decision_any hA (f k) h2 hv).mono ?_; rintro e w' ⟨rfl,hb1⟩; unfold keyOf)
    all_goals
     go_roundw
     case rel => exact ⟨k + 1,by omega,by go_num,by rw [HS.out,HT.out]; congr 1; omega,hb.trans (hb1.mono hb.size)⟩
     case measure => simp [intOf]; omega
   ·have HT : Hid (top ds (f k) = 0):=if_pos (by omega)
    have h2' : (f k : Int) < 2:=by omega
    go_wp2_with fail
    go_roundw
    case rel => exact ⟨k + 1,by omega,by go_num,by rw [HS.out,HT.out,Nat.max_zero],hb⟩
    case measure => simp [intOf]; omega
  ·obtain rfl : k = n:=by omega
   go_wp2_with fail
   go_ret
   exact ⟨rfl,hb⟩
end
end Bdd
namespace Bd
variable {vars : Nat} {ds ds1 ds2 : List Dec}
def splitOf (ds : List Dec) (n name : Nat) : Nat × Nat:=if top ds n = name + 1 then (dec ds n).2 else (n,n)
theorem split_ok (h : WF vars ds) {n t : Nat} (hn : n < ds.length + 2) (ht : top ds n ≤ t + 1) :
  (splitOf ds n t).1 < ds.length + 2 ∧ (splitOf ds n t).2 < ds.length + 2 ∧ top ds (splitOf ds n t).1 ≤ t ∧ top ds (splitOf ds n t).2 ≤ t ∧
   ∀ a,S ds n a = if a t then S ds (splitOf ds n t).2 a else S ds (splitOf ds n t).1 a:=by
 unfold splitOf
 by_cases e : top ds n = t + 1
 ·rw [if_pos e]
  have h2 : 2 ≤ n:=by unfold top at e; split at e <;> omega
  have en : (dec ds n).1 = t:=by unfold top at e; rw [if_neg (by omega)] at e; omega
  have hl:=h.lo n h2 hn
  have hh:=h.hi n h2 hn
  have tl:=h.tlo n h2 hn
  have th:=h.thi n h2 hn
  refine ⟨by omega,by omega,by omega,by omega,fun a => ?_⟩
  rw [S_ge2 h h2 hn,en]
  split <;> rfl
 ·rw [if_neg e]
  exact ⟨hn,hn,by dsimp only; omega,by dsimp only; omega,fun a => by simp⟩
theorem Made.refl (h : WF vars ds) {n t : Nat} (hn : n < ds.length + 2) (ht : Bd.top ds n ≤ t) : Made vars ds ds n (S ds n) t :=
 ⟨⟨[],by simp⟩,h,hn,fun _ => rfl,ht,by have:=Nat.one_le_two_pow (n:=t); omega⟩
theorem Made.congr {r : Nat} {g g' : (Nat → Bool) → Bool} {t : Nat} (h : Made vars ds ds1 r g t) (e : ∀ a,g a = g' a) : Made vars ds ds1 r g' t :=
 ⟨h.ext,h.wf,h.lt,fun a => (h.says a).trans (e a),h.top,h.few⟩
theorem Made.mono {r : Nat} {g : (Nat → Bool) → Bool} {t t' : Nat} (h : Made vars ds ds1 r g t) (ht : t ≤ t') : Made vars ds ds1 r g t' :=
 ⟨h.ext,h.wf,h.lt,h.says,Nat.le_trans h.top ht,by have:=Nat.pow_le_pow_right (n:=2) (by omega) ht; have:=h.few; omega⟩
theorem Made.old {r : Nat} {g : (Nat → Bool) → Bool} {t : Nat} (w : WF vars ds) (h : Made vars ds ds1 r g t) {n : Nat} (hn : n < ds.length + 2) :
  n < ds1.length + 2 ∧ Bd.top ds1 n = Bd.top ds n ∧ ∀ a,S ds1 n a = S ds n a:=by
 obtain ⟨e,rfl⟩:=h.ext
 exact ⟨by simp; omega,top_append _ hn,S_append w e h.wf n hn⟩
theorem made_join {r1 r2 t : Nat} {g0 g1 : (Nat → Bool) → Bool} (h1 : Made vars ds ds1 r1 g0 t) (h2 : Made vars ds1 ds2 r2 g1 t) (ht : t < vars) :
  Made vars ds (decide_ ds2 (t,r1,r2)).2 (decide_ ds2 (t,r1,r2)).1 (fun a => if a t then g1 a else g0 a) (t + 1) ∧ r1 < ds2.length + 2 ∧ Bd.top ds2 r1 ≤ t:=by
 obtain ⟨a1,a2,a3⟩:=h2.old h1.wf h1.lt
 have ht1 : Bd.top ds2 r1 ≤ t:=by rw [a2]; exact h1.top
 have hM:=decide_made (vars:=vars) (ds:=ds2) (d:=(t,r1,r2)) h2.wf ht a1 h2.lt ht1 h2.top
 obtain ⟨m1,⟨e,m2,m2'⟩,m3,m4,m5⟩:=hM
 refine ⟨⟨?_,m1,m3,fun a => ?_,m4,?_⟩,a1,ht1⟩
 ·obtain ⟨e1,x1⟩:=h1.ext
  obtain ⟨e2,x2⟩:=h2.ext
  exact ⟨e1 ++ (e2 ++ e),by rw [m2,x2,x1]; simp⟩
 ·rw [m5 a]
  split
  ·exact h2.says a
  ·exact (a3 a).trans (h1.says a)
 ·have f1:=h1.few
  have f2:=h2.few
  rw [m2,List.length_append,Nat.pow_succ]
  omega
end Bd
namespace Bdd
open Go.RowKit Bd
section
variable {w : World} {B p m vars : Nat} {sv : Value} {ds : List Dec}
theorem below_drewN {B : Nat} {a w : World} (h : Below B a w) (n : Nat) : Below B a (w.drewN n):=⟨h.os,h.tape,h.output,h.size,h.block⟩
theorem Nodes.new1 (w : World) (n : Int) : Nodes (w.alloc (.cells #[.int .i64 n] 39)) w.heap.size 1 (fun _ => n):=by
 refine ⟨by simp,fun i hi => ?_⟩
 obtain rfl : i = 0:=by omega
 simp [go_sem]
theorem split_any (h : Ar w B p m sv vars ds) (n name : Nat) (hn : n < ds.length + 2) (hname : name < 8) :
  Calls Tryz.prog 176 #[.pointer (some ⟨p,0,none⟩), .int .i64 (n : Int), .int .i64 (name : Int)] w fun e w' => e = .returned (.tuple #[.int .i64 ((splitOf ds n name).1 : Int), .int .i64 ((splitOf ds n name).2 : Int)]) ∧ Below w.heap.size w w':=by
 have hA:=h.alloc (.cells #[.int .i64 (n : Int)] 39)
 have hN:=Nodes.new1 w (n : Int)
 have hT:=top_any hA w.heap.size 1 1 (fun _ => n) (by omega) hN (fun _ _ => hn)
 have HT:=Lib.hid hT
 have HN:=Lib.hid hN
 clear hT hN
 have hv8:=h.v8
 have ht8:=top_le h.wf hn
 by_cases ht : top ds n = name + 1
 ·have h2 : 2 ≤ n:=by unfold top at ht; split at ht <;> omega
  have hs : splitOf ds n name = (dec ds n).2:=if_pos ht
  have HS:=Lib.hid hs
  have HTT:=Lib.hid ht
  clear hs ht
  go_enter Tryz.func176,Tryz.ntmps176
  go_wp2_with fail
  refine (HT.out).mono ?_
  rintro e w1 ⟨rfl,hb1⟩
  have : (tops ds (fun _ => n) 1 : Int) - 1 = name:=by simp [tops,HTT.out]
  rw [this]
  clear this
  have hA1:=hA.below hb1
  go_wp2_with fail
  refine (decision_any hA1 n h2 hn).mono ?_
  rintro e w2 ⟨rfl,hb2⟩
  unfold keyOf
  go_wp2_with fail
  go_quiet (fail)
  go_wp2_with fail
  go_ret2
  refine ⟨by rw [HS.out]; rfl,?_⟩
  have b0 : Below w.heap.size w (w.alloc (.cells #[.int .i64 (n : Int)] 39)):=(Below.refl _ _).alloc (Nat.le_refl _) _
  have b1:=b0.trans (hb1.mono (by simp))
  have b2:=b1.trans (hb2.mono b1.size)
  exact below_drewN (b2.alloc b2.size _) _
 ·have hs : splitOf ds n name = (n,n):=if_neg ht
  have HS:=Lib.hid hs
  have hne : ((top ds n : Int) - 1 != (name : Int)) = true:=by rw [bne_iff_ne]; omega
  clear hs ht
  go_enter Tryz.func176,Tryz.ntmps176
  go_wp2_with fail
  refine (HT.out).mono ?_
  rintro e w1 ⟨rfl,hb1⟩
  have : (tops ds (fun _ => n) 1 : Int) - 1 = (top ds n : Int) - 1:=by simp [tops]
  rw [this]
  clear this
  go_wp2_with fail
  go_ret2
  exact ⟨by rw [HS.out]; rfl,((Below.refl _ _).alloc (Nat.le_refl _) _).trans (hb1.mono (by simp))⟩
theorem new_yes (v : Nat) (hv : v ≤ 8) (w : World) : Calls Tryz.prog 10 #[.int .i64 (v : Int)] w fun e w' =>
  e = .returned (.tuple #[.pointer (some ⟨w.heap.size + 1,0,none⟩), .int .i64 0]) ∧ Ar w' w.heap.size (w.heap.size + 1) w.heap.size (.slice none 0 0) v [] ∧ Below w.heap.size w w':=by
 have hmm:=@run_makeMap Tryz.prog
 go_enter Tryz.func10,Tryz.ntmps10
 go_wp2
 go_ret2
 refine ⟨rfl,?_,((Below.refl _ _).alloc (Nat.le_refl _) _).alloc (by simp) _⟩
 refine ⟨?_,World.ownsRow_nil _ _ _ _,?_,by omega,by omega,hv,wf_nil v,by simp⟩
 ·have:=heap_alloc_new (w.alloc (.map #[] 0)) (.cells #[.int .i64 (v : Int), .slice none 0 0, .map (some w.heap.size)] 70)
  simpa using this
 ·rw [Below.heap_alloc _ _ _ (by simp)]
  exact heap_alloc_new _ _
theorem decide_same (w : World) (p : Nat) (d : Dec) (he : d.2.1 = d.2.2) :
  Calls Tryz.prog 110 #[.pointer (some ⟨p,0,none⟩),keyOf d] w fun e w' => e = .returned (.int .i64 (d.2.2 : Int)) ∧ Below w.heap.size w w':=by
 obtain ⟨a,b,c⟩:=d
 simp only at he
 subst he
 unfold keyOf
 go_enter Tryz.func110,Tryz.ntmps110
 go_wp2
 go_ret
 exact ⟨rfl,(Below.refl _ _).alloc (Nat.le_refl _) _⟩
theorem decide_found (h : Ar w B p m sv vars ds) (d : Dec) (hne : d.2.1 ≠ d.2.2) (i : Nat) (hi : ds.findIdx? (fun x => decide (x = d)) = some i) :
  Calls Tryz.prog 110 #[.pointer (some ⟨p,0,none⟩),keyOf d] w fun e w' => e = .returned (.int .i64 ((i : Int) + 2)) ∧ Below w.heap.size w w':=by
 have hrun : ∀ W : World,W.heap[m]? = w.heap[m]? → (Instr.lookup 67 (.map (some m)) (keyOf d) true).run Tryz.prog W = .ok (.tuple #[.int .i64 ((i : Int) + 2), .bool true]) W:=by
  intro W hW
  have:=run_lookup72 d ds _ m W (hW.trans h.map)
  rw [hi] at this
  exact this
 have hml:=lt_of_get h.map
 have hpl:=lt_of_get h.blk
 have c2:=h.c2
 obtain ⟨a,b,c⟩:=d
 unfold keyOf at hrun ⊢
 simp only at hne hrun
 have hbc : ((b : Int) == (c : Int)) = false:=beq_eq_false_iff_ne.2 (by omega)
 clear hne hi
 have hrun1:=fun k => hrun ((w.alloc (.cells #[.int .i64 (a : Int), .int .i64 (b : Int), .int .i64 (c : Int)] 92)).drewN k) (Below.heap_alloc _ _ _ hml)
 clear hrun
 go_enter Tryz.func110,Tryz.ntmps110
 go_wp2
 go_quiet (fail)
 go_wp2_with fail
 go_ret
 exact ⟨rfl,below_drewN ((Below.refl _ _).alloc (Nat.le_refl _) _) _⟩
theorem news3 (W : World) (x y z : Value) (t : TypeId) : ∀ j u,[x,y,z][j]? = some u → ((W.alloc (.cells #[x,y,z] t)).drew).cell? ((⟨W.heap.size,0,none⟩ : Addr).add j) = some u:=by
 intro j u hu
 have hlt : j < 3:=by
  rcases Nat.lt_or_ge j 3 with h | h
  ·exact h
  ·rw [List.getElem?_eq_none (by simpa using h)] at hu; cases hu
 have e : ((W.alloc (.cells #[x,y,z] t)).drew).heap[W.heap.size]? = some (.cells #[x,y,z] t):=heap_alloc_new _ _
 match j,hlt with
 | 0,_ => exact (cell_of_row _ _ _ _ _ _ e).trans (by simpa using hu)
 | 1,_ => exact (cell_of_row _ _ _ _ _ _ e).trans (by simpa using hu)
 | 2,_ => exact (cell_of_row _ _ _ _ _ _ e).trans (by simpa using hu)
theorem Ar.own_p (h : Ar w B p m sv vars ds) : some p ≠ sv.ownBlock:=by
 rcases h.row.2 with ⟨rfl,_⟩ | ⟨g,cap,cur,rfl,_,hh,_⟩
 ·simp [Value.ownBlock]
 ·intro e
  have : p = g:=by simpa [Value.ownBlock] using e
  subst this
  have:=h.blk
  rw [hh] at this
  cases this
theorem Ar.own_m (h : Ar w B p m sv vars ds) : some m ≠ sv.ownBlock:=by
 rcases h.row.2 with ⟨rfl,_⟩ | ⟨g,cap,cur,rfl,_,hh,_⟩
 ·simp [Value.ownBlock]
 ·intro e
  have : m = g:=by simpa [Value.ownBlock] using e
  subst this
  have:=h.map
  rw [hh] at this
  cases this
theorem Ar.grown_p {w1 : World} (h : Ar w B p m sv vars ds) (hg : w.grownBy w1 sv.ownBlock) : w1.cell? ⟨p,1,none⟩ = some sv ∧ w1.frozen? ⟨p,1,none⟩ = false:=by
 have e:=hg.block p (lt_of_get h.blk) h.own_p
 exact ⟨(World.cell?_of_block (w:=w) (a:=⟨p,1,none⟩) e).trans h.c1,(World.frozen?_of_block (w:=w) (a:=⟨p,1,none⟩) e).trans (h.fz 1)⟩
structure Mid (w W2 : World) (B p m : Nat) (sv v' : Value) (vars : Nat) (ds : List Dec) (d : Dec) : Prop where
 blk : W2.heap[p]? = some (.cells #[.int .i64 (vars : Int),v', .map (some m)] 70 (0,0))
 map : W2.heap[m]? = some (.map (entriesOf ds) ds.length)
 row : W2.ownsRow B 92 3 v' (ds ++ [d]).length (cellsOf (ds ++ [d]))
 box : W2.heap[w.heap.size]? = some (.cells #[.int .i64 (d.1 : Int), .int .i64 (d.2.1 : Int), .int .i64 (d.2.2 : Int)] 92)
 fr : Fr p m sv w v' W2
theorem Mid.make {W w1 : World} {d : Dec} {g cap : Nat} {o : Obj} (h : Ar w B p m sv vars ds) (hW : Below w.heap.size w W)
  (hbox : W.heap[w.heap.size]? = some (.cells #[.int .i64 (d.1 : Int), .int .i64 (d.2.1 : Int), .int .i64 (d.2.2 : Int)] 92))
  (hown : w1.ownsRow B 92 3 (.slice (some ⟨g,0,none⟩) (ds.length + 1) cap) (ds.length + 1) (cellsOf ds ++ [.int .i64 (d.1 : Int), .int .i64 (d.2.1 : Int), .int .i64 (d.2.2 : Int)]))
  (hgrow : ((W.alloc o).drew).grownBy w1 sv.ownBlock) (hat : sv.ownBlock = some g ∨ g = W.heap.size + 1) :
  Mid w (w1.setCell ⟨p,1,none⟩ (.slice (some ⟨g,0,none⟩) (ds.length + 1) cap)) B p m sv (.slice (some ⟨g,0,none⟩) (ds.length + 1) cap) vars ds d:=by
 have hA:=(h.below hW)
 have hA1:=(hA.alloc o).drew
 have hpl:=lt_of_get h.blk
 have hWs:=hW.size
 have hbp : w1.heap[p]? = some (.cells #[.int .i64 (vars : Int),sv, .map (some m)] 70 (0,0)):=(hgrow.block p (lt_of_get hA1.blk) hA1.own_p).trans hA1.blk
 have hbm : w1.heap[m]? = some (.map (entriesOf ds) ds.length):=(hgrow.block m (lt_of_get hA1.map) hA1.own_m).trans hA1.map
 have hnb : some w.heap.size ≠ sv.ownBlock:=by
  intro e
  have:=(h.row.lt _ e.symm).2
  omega
 have hbl:=lt_of_get hbox
 have hbb : w1.heap[w.heap.size]? = some (.cells #[.int .i64 (d.1 : Int), .int .i64 (d.2.1 : Int), .int .i64 (d.2.2 : Int)] 92) :=
  (hgrow.block _ (by simp; omega) hnb).trans ((Below.heap_alloc W o _ hbl).trans hbox)
 have hgp : p ≠ g:=by
  rintro rfl
  rcases hown.2 with ⟨e,_⟩ | ⟨g',cap',cur,e,_,hh,_⟩
  ·cases e
  ·injection e with e1 _ _
   injection e1 with e1
   injection e1 with e1 _ _
   subst e1
   rw [hbp] at hh
   cases hh
 refine ⟨?_,?_,?_,?_,?_⟩
 ·simp [World.setCell,Array.getElem?_modify,hbp]
 ·rw [Below.heap_setCell _ _ _ _ (by simpa using h.pm.symm)]; exact hbm
 ·rw [cellsOf_append,List.length_append]
  refine ⟨hown.1,?_⟩
  rcases hown.2 with ⟨e,_⟩ | ⟨g',cap',cur,e,hg',hh,r⟩
  ·cases e
  ·refine .inr ⟨g',cap',cur,e,hg',?_,r⟩
   injection e with e1 _ _
   injection e1 with e1
   injection e1 with e1 _ _
   subst e1
   rw [Below.heap_setCell _ _ _ _ (by simpa using hgp.symm)]
   exact hh
 ·rw [Below.heap_setCell _ _ _ _ (by simp; omega)]; exact hbb
 ·refine ⟨hgrow.os.trans hW.os,hgrow.tape.trans hW.tape,hgrow.output.trans hW.output,?_,fun k hk h1 h2 h3 => ?_,?_⟩
  ·have:=hgrow.size
   simp [World.setCell] at this ⊢
   omega
  ·rw [Below.heap_setCell _ _ _ _ (by simpa using h1)]
   refine (hgrow.block k (by simp; omega) (fun e => h3 e.symm)).trans ?_
   exact (Below.heap_alloc W o _ (by omega)).trans (hW.block k hk)
  ·rcases hat with e | e
   ·exact .inl e.symm
   ·right
    intro k hk
    have : g = k:=by simpa [Value.ownBlock] using hk
    omega
theorem Mid.done {W2 : World} {v' : Value} {d : Dec} (h : Ar w B p m sv vars ds) (M : Mid w W2 B p m sv v' vars ds d) (hwf : WF vars (ds ++ [d])) (hfew : ds.length < 100000000) :
  Ar (setB W2 m (.map (entriesOf (ds ++ [d])) (ds.length + 1))) B p m v' vars (ds ++ [d]) ∧ Fr p m sv w v' (setB W2 m (.map (entriesOf (ds ++ [d])) (ds.length + 1))):=by
 have hne:=h.pm
 refine ⟨⟨?_,?_,by rw [List.length_append]; exact setB_same _ (lt_of_get M.map),h.hp,h.hm,h.v8,hwf,by simp; omega⟩,?_⟩
 ·rw [setB_other _ _ hne]; exact M.blk
 ·refine ⟨M.row.1,?_⟩
  rcases M.row.2 with h0 | ⟨g,cap,cur,hv,hg,hh,r⟩
  ·exact .inl h0
  ·refine .inr ⟨g,cap,cur,hv,hg,?_,r⟩
   rw [setB_other]
   ·exact hh
   ·rintro rfl
    rw [M.map] at hh
    cases hh
 ·refine ⟨M.fr.os,M.fr.tape,M.fr.output,by rw [setB_size]; exact M.fr.size,fun k hk h1 h2 h3 => ?_,M.fr.own⟩
  rw [setB_other _ _ h2]
  exact M.fr.blk k hk h1 h2 h3
def Gives (w : World) (B p m : Nat) (sv : Value) (vars r : Nat) (ds' : List Dec) (e : Ending) (w' : World) : Prop :=
 e = .returned (.int .i64 (r : Int)) ∧ ∃ sv',Ar w' B p m sv' vars ds' ∧ Fr p m sv w sv' w'
theorem ret_int {a b : Int} (h : a = b) : Ending.returned (.int .i64 a) = .returned (.int .i64 b):=by rw [h]
theorem info67 : ∃ i,Tryz.prog.info? 92 = some i ∧ i.zero = some (.agg #[.int .i64 0, .int .i64 0, .int .i64 0]) ∧ i.size = 3 ∧ i.bytes = 24:=⟨_,rfl,by kernel_rfl,by kernel_rfl,by kernel_rfl⟩
theorem decide_new (h : Ar w B p m sv vars ds) (d : Dec) (hne : d.2.1 ≠ d.2.2) (hi : ds.findIdx? (fun x => decide (x = d)) = none) (hfew : ds.length < 100000000) (hwf : WF vars (ds ++ [d])) :
  Calls Tryz.prog 110 #[.pointer (some ⟨p,0,none⟩),keyOf d] w (Gives w B p m sv vars (ds.length + 2) (ds ++ [d])):=by
 have hrun : ∀ W : World,W.heap[m]? = w.heap[m]? → (Instr.lookup 67 (.map (some m)) (keyOf d) true).run Tryz.prog W = .ok (.tuple #[.int .i64 0, .bool false]) W:=by
  intro W hW
  have:=run_lookup72 d ds _ m W (hW.trans h.map)
  rw [hi] at this
  exact this
 have hml:=lt_of_get h.map
 have hpl:=lt_of_get h.blk
 have c1:=h.c1
 have c2:=h.c2
 have fz:=h.fz 1
 obtain ⟨a,b,c⟩:=d
 unfold keyOf at hrun ⊢
 simp only at hne hrun
 have hbc : ((b : Int) == (c : Int)) = false:=beq_eq_false_iff_ne.2 (by omega)
 clear hne
 have hrun1:=fun k => hrun ((w.alloc (.cells #[.int .i64 (a : Int), .int .i64 (b : Int), .int .i64 (c : Int)] 92)).drewN k) (Below.heap_alloc _ _ _ hml)
 clear hrun
 obtain ⟨A,cp,hsv⟩:=h.form
 have HSV:=Lib.hid hsv
 subst hsv
 go_enter Tryz.func110,Tryz.ntmps110
 go_wp2
 go_quiet (fail)
 go_wp2_with fail
 have hW : Below w.heap.size w ((w.alloc (.cells #[.int .i64 (a : Int), .int .i64 (b : Int), .int .i64 (c : Int)] 92)).drewN nq):=below_drewN ((Below.refl _ _).alloc (Nat.le_refl _) _) _
 have hbox : ((w.alloc (.cells #[.int .i64 (a : Int), .int .i64 (b : Int), .int .i64 (c : Int)] 92)).drewN nq).heap[w.heap.size]? = some (.cells #[.int .i64 (a : Int), .int .i64 (b : Int), .int .i64 (c : Int)] 92):=heap_alloc_new _ _
 generalize ((w.alloc (.cells #[.int .i64 (a : Int), .int .i64 (b : Int), .int .i64 (c : Int)] 92)).drewN nq) = W at hW hbox ⊢
 have hAW:=h.below hW
 have c1':=hAW.c1
 have fz':=hAW.fz 1
 have hpl':=lt_of_get hAW.blk
 have hbl:=lt_of_get hbox
 have b0 : W.cell? ⟨w.heap.size,0,none⟩ = some (.int .i64 (a : Int)):=by simp [World.cell?,hbox]
 have b1 : W.cell? ⟨w.heap.size,1,none⟩ = some (.int .i64 (b : Int)):=by simp [World.cell?,hbox]
 have b2 : W.cell? ⟨w.heap.size,2,none⟩ = some (.int .i64 (c : Int)):=by simp [World.cell?,hbox]
 obtain ⟨ti,hti,htz,hts,htb⟩:=info67
 have HTI:=Lib.hid hti
 have HTZ:=Lib.hid htz
 have HTS:=Lib.hid hts
 have HTB:=Lib.hid htb
 clear hti htz hts htb
 have HBOX:=Lib.hid hbox
 have HI:=Lib.hid hi
 clear hbox c1 c2 fz hrun1 hbc hi HSV
 have h1c : ∀ u ∈ [Value.int .i64 (a : Int), .int .i64 (b : Int), .int .i64 (c : Int)],u.oneCell' = true:=by simp [Value.oneCell']
 have H1C:=Lib.hid h1c
 clear h1c
 have hbase0 : B ≤ ((W.alloc (.cells #[.int .i64 (a : Int), .int .i64 (b : Int), .int .i64 (c : Int)] 92)).drew).heap.size:=by
  have:=hAW.hp; simp; omega
 go_region_law ((refine step_append_lies _ rfl (.tmp 36) (.tmp 38) 68 rfl B 92 ti _ 3 24 Tryz.underlying68 HTI.out HTZ.out HTS.out HTB.out rfl (by omega) (.slice A ds.length cp) ds.length (cellsOf ds) rfl ?_ ⟨W.heap.size,0,none⟩ 1 1 [.int .i64 (a : Int), .int .i64 (b : Int), .int .i64 (c : Int)] rfl rfl ?_ H1C.out (by omega) (by unfold maxLen; omega) (by omega) ?_ (W.heap.size + 1) ?_ ?_; exact ((hAW.alloc _).drew).row; exact news3 _ _ _ _ _; exact hbase0; simp; intro g cap w1 hown hgrow hat hlt; obtain ⟨hc1w,hfzw⟩:=((hAW.alloc _).drew).grown_p hgrow; have M:=Mid.make (d:=(a,b,c)) h hW HBOX.out hown hgrow hat; clear hown hgrow hat))
 all_goals
  generalize (w1.setCell ⟨p,1,none⟩ (.slice (some ⟨g,0,none⟩) (ds.length + 1) cap)) = W2 at M ⊢
  clear hc1w hfzw hlt c1' fz' b0 b1 b2 hpl' hbl hAW hbase0 HBOX
  have hpl2:=lt_of_get M.blk
  have c2 : W2.cell? ⟨p,2,none⟩ = some (.map (some m)):=by simp [World.cell?,M.blk]
  have b0 : W2.cell? ⟨w.heap.size,0,none⟩ = some (.int .i64 (a : Int)):=by simp [World.cell?,M.box]
  have b1 : W2.cell? ⟨w.heap.size,1,none⟩ = some (.int .i64 (b : Int)):=by simp [World.cell?,M.box]
  have b2 : W2.cell? ⟨w.heap.size,2,none⟩ = some (.int .i64 (c : Int)):=by simp [World.cell?,M.box]
  have hup:=run_mapUpdate72 (a,b,c) ds m W2.drew M.map HI.out
  unfold keyOf at hup
  rw [show ((ds.length : Int) + 2) = 2 + (ds.length : Int) from by omega] at hup
  go_wp2_with fail
  go_region
  all_goals
   go_wp2_with fail
   go_ret
   refine ⟨ret_int (by simp; omega),_,Mid.done (W2:=W2.drew) h ⟨M.blk,M.map,M.row,M.box,⟨M.fr.os,M.fr.tape,M.fr.output,M.fr.size,M.fr.blk,M.fr.own⟩⟩ hwf hfew⟩
theorem Gives.of_below {w' : World} {e : Ending} {r : Nat} (h : Ar w B p m sv vars ds) (he : e = .returned (.int .i64 (r : Int))) (hb : Below w.heap.size w w') : Gives w B p m sv vars r ds e w' :=
 ⟨he,sv,h.below hb,Fr.of_below hb p m sv⟩
theorem decide_any (h : Ar w B p m sv vars ds) (d : Dec) (hname : d.1 < vars) (hlo : d.2.1 < ds.length + 2) (hhi : d.2.2 < ds.length + 2) (tlo : top ds d.2.1 ≤ d.1) (thi : top ds d.2.2 ≤ d.1) (hfew : ds.length < 100000000) :
  Calls Tryz.prog 110 #[.pointer (some ⟨p,0,none⟩),keyOf d] w (Gives w B p m sv vars (decide_ ds d).1 (decide_ ds d).2):=by
 have hM:=decide_made h.wf hname hlo hhi tlo thi
 by_cases he : d.2.1 = d.2.2
 ·have e : decide_ ds d = (d.2.2,ds):=if_pos he
  rw [e]
  exact (decide_same w p d he).mono fun _ _ ⟨h1,h2⟩ => Gives.of_below h h1 h2
 ·rcases hi : ds.findIdx? (fun x => decide (x = d)) with _ | i
  ·have e : decide_ ds d = (ds.length + 2,ds ++ [d]):=by unfold decide_; rw [if_neg he,hi]
   rw [e] at hM ⊢
   exact decide_new h d he hi hfew hM.1
  ·have e : decide_ ds d = (i + 2,ds):=by unfold decide_; rw [if_neg he,hi]
   rw [e]
   exact (decide_found h d he i hi).mono fun _ _ ⟨h1,h2⟩ => Gives.of_below h (h1.trans (ret_int (by simp))) h2
end
end Bdd
namespace Bdd
open Go.RowKit Bd
def Makes (w : World) (B p m : Nat) (sv : Value) (vars : Nat) (ds : List Dec) (g : (Nat → Bool) → Bool) (t : Nat) (e : Ending) (w' : World) : Prop :=
 ∃ r ds',Made vars ds ds' r g t ∧ Gives w B p m sv vars r ds' e w'
theorem Nodes.new2 (w : World) (x y : Nat) : Nodes (w.alloc (.cells #[.int .i64 (x : Int), .int .i64 (y : Int)] 39)) w.heap.size 2 (fun i => ((if i = 0 then x else y : Nat) : Int)):=by
 refine ⟨by simp,fun i hi => ?_⟩
 have e : (w.alloc (.cells #[.int .i64 (x : Int), .int .i64 (y : Int)] 39)).heap[w.heap.size]? = some (.cells #[.int .i64 (x : Int), .int .i64 (y : Int)] 39):=heap_alloc_new _ _
 rw [cell_of_row _ _ _ _ _ _ e]
 match i,hi with
 | 0,_ => rfl
 | 1,_ => rfl
theorem Nodes.new3 (w : World) (x y z : Nat) : Nodes (w.alloc (.cells #[.int .i64 (x : Int), .int .i64 (y : Int), .int .i64 (z : Int)] 39)) w.heap.size 3 (fun i => ((if i = 0 then x else if i = 1 then y else z : Nat) : Int)):=by
 refine ⟨by simp,fun i hi => ?_⟩
 have e : (w.alloc (.cells #[.int .i64 (x : Int), .int .i64 (y : Int), .int .i64 (z : Int)] 39)).heap[w.heap.size]? = some (.cells #[.int .i64 (x : Int), .int .i64 (y : Int), .int .i64 (z : Int)] 39):=heap_alloc_new _ _
 rw [cell_of_row _ _ _ _ _ _ e]
 match i,hi with
 | 0,_ => rfl
 | 1,_ => rfl
 | 2,_ => rfl
section
variable {B p m vars : Nat}
def opOf (f : Nat) : Bool → Bool → Bool:=if f = 112 then fun x _ => !x else fun x y => x && y
theorem op_any (f : Nat) (hf : f = 112 ∨ f = 113) (x y : Bool) (w : World) : Calls Tryz.prog f #[.bool x, .bool y] w fun e w' => e = .returned (.bool (opOf f x y)) ∧ w = w':=by
 rcases hf with rfl | rfl
 ·cases x <;> cases y <;> (go_enter Tryz.func112,Tryz.ntmps112; go_wp2; go_ret; exact ⟨rfl,rfl⟩)
 ·cases x <;> cases y <;> (go_enter Tryz.func113,Tryz.ntmps113; go_wp2; go_ret; exact ⟨rfl,rfl⟩)
def bit (b : Bool) : Int:=if b then 1 else 0
theorem settled_lt (b : Bool) : bit b = (((if b then 1 else 0 : Nat)) : Int):=by cases b <;> rfl
theorem settled_bit (b : Bool) (w : World) : Calls Tryz.prog 182 #[.bool b] w fun e w' => e = .returned (.int .i64 (bit b)) ∧ w = w':=settled_any b w
theorem combine_any (f : Nat) (hf : f = 112 ∨ f = 113) : ∀ (k : Nat) (w : World) (sv : Value) (ds : List Dec) (x y : Nat),Ar w B p m sv vars ds → x < ds.length + 2 → y < ds.length + 2 → top ds x ≤ k → top ds y ≤ k → k ≤ vars →
  ds.length + 2 ^ k ≤ 100000000 →
  Calls Tryz.prog 147 #[.pointer (some ⟨p,0,none⟩), .int .i64 (x : Int), .int .i64 (y : Int), .func (.func f) #[] #[]] w (Makes w B p m sv vars ds (fun a => opOf f (S ds x a) (S ds y a)) k):=by
 intro k
 induction k with
 | zero =>
  intro w sv ds x y h hx hy tx ty hk hfew
  have x2 : x < 2:=by unfold top at tx; split at tx <;> omega
  have y2 : y < 2:=by unfold top at ty; split at ty <;> omega
  have hA:=h.alloc (.cells #[.int .i64 (x : Int), .int .i64 (y : Int)] 39)
  have hT:=top_any hA w.heap.size 2 2 (fun i => if i = 0 then x else y) (by omega) (Nodes.new2 w x y) (fun i _ => by split <;> assumption)
  have e0 : tops ds (fun i => if i = 0 then x else y) 2 = 0:=by simp [tops]; omega
  rw [e0] at hT
  have HT:=Lib.hid hT
  clear hT e0
  have HM : Hid (Made vars ds ds (if opOf f (x == 1) (y == 1) then 1 else 0) (fun a => opOf f (S ds x a) (S ds y a)) 0):=by
   refine (Made.refl h.wf (n:=if opOf f (x == 1) (y == 1) then 1 else 0) (t:=0) (by split <;> omega) (by unfold top; split <;> split <;> omega)).congr fun a => ?_
   rw [S_lt2 x2,S_lt2 y2,S_lt2 (by split <;> omega)]
   cases opOf f (x == 1) (y == 1) <;> rfl
  have hxb : (((x : Int) == 1) = (x == 1)):=by rw [Bool.eq_iff_iff]; simp; omega
  have hyb : (((y : Int) == 1) = (y == 1)):=by rw [Bool.eq_iff_iff]; simp; omega
  have HXB:=Lib.hid hxb
  have HYB:=Lib.hid hyb
  clear hxb hyb hfew tx ty
  rcases hf with rfl | rfl
  all_goals
   go_enter Tryz.func147,Tryz.ntmps147
   go_wp2_with fail
   refine (HT.out).mono ?_
   rintro e w1 ⟨rfl,hb1⟩
   go_wp2_with fail
   refine (op_any _ (by simp) _ _ _).mono ?_
   rintro e w2 ⟨rfl,rfl⟩
   go_wp2_with fail
   refine (settled_bit _ _).mono ?_
   rintro e w2 ⟨rfl,rfl⟩
   go_wp2_with fail
   go_ret
   refine ⟨_,_,HM.out,Gives.of_below h (ret_int ?_) (((Below.refl _ _).alloc (Nat.le_refl _) _).trans (hb1.mono (by simp)))⟩
   rw [← settled_lt,← HXB.out,← HYB.out]
 | succ t ih =>
  intro w sv ds x y h hx hy tx ty hk hfew
  by_cases hlow : top ds x ≤ t ∧ top ds y ≤ t
  ·exact (ih w sv ds x y h hx hy hlow.1 hlow.2 (by omega) (by rw [Nat.pow_succ] at hfew; omega)).mono fun e w' ⟨r,ds',hM,hG⟩ => ⟨r,ds',hM.mono (by omega),hG⟩
  have hv8:=h.v8
  have hA:=h.alloc (.cells #[.int .i64 (x : Int), .int .i64 (y : Int)] 39)
  have hT:=top_any hA w.heap.size 2 2 (fun i => if i = 0 then x else y) (by omega) (Nodes.new2 w x y) (fun i _ => by split <;> assumption)
  have e0 : (tops ds (fun i => if i = 0 then x else y) 2 : Int) - 1 = (t : Int):=by simp [tops]; omega
  rw [e0] at hT
  have HT:=Lib.hid hT
  obtain ⟨x1,x2,x3,x4,x5⟩:=split_ok h.wf hx tx
  obtain ⟨y1,y2,y3,y4,y5⟩:=split_ok h.wf hy ty
  have X5:=Lib.hid x5
  have Y5:=Lib.hid y5
  have IH:=Lib.hid ih
  have HF:=Lib.hid hfew
  clear hT e0 x5 y5 ih hfew hlow
  go_enter Tryz.func147,Tryz.ntmps147
  go_wp2_with fail
  refine (HT.out).mono ?_
  rintro e w1 ⟨rfl,hb1⟩
  have hA1:=hA.below hb1
  go_wp2_with fail
  refine (split_any hA1 x t hx (by omega)).mono ?_
  rintro e w2 ⟨rfl,hb2⟩
  have hA2:=hA1.below hb2
  go_wp2_with fail
  refine (split_any hA2 y t hy (by omega)).mono ?_
  rintro e w3 ⟨rfl,hb3⟩
  have hA3:=hA2.below hb3
  have hb03 : Below w.heap.size w w3:=by
   have b0 : Below w.heap.size w (w.alloc (.cells #[.int .i64 (x : Int), .int .i64 (y : Int)] 39)):=(Below.refl _ _).alloc (Nat.le_refl _) _
   have b1:=b0.trans (hb1.mono b0.size)
   have b2:=b1.trans (hb2.mono b1.size)
   exact b2.trans (hb3.mono b2.size)
  have F3:=Fr.of_below hb03 p m sv
  have hk' : t ≤ vars:=by omega
  have hpow : 2 ^ (t + 1) = 2 ^ t + 2 ^ t:=by rw [Nat.pow_succ]; omega
  have hone : 1 ≤ 2 ^ t:=Nat.one_le_two_pow
  have hfew1 : ds.length + 2 ^ t ≤ 100000000:=by have:=HF.out; omega
  go_wp2_with fail
  refine (IH.out w3 sv ds _ _ hA3 x1 y1 x3 y3 hk' hfew1).mono ?_
  rintro e w4 ⟨r1,ds1,M1,rfl,sv1,hA4,F4⟩
  obtain ⟨u1,u2,u3⟩:=M1.old h.wf x2
  obtain ⟨v1,v2,v3⟩:=M1.old h.wf y2
  have hfew2 : ds1.length + 2 ^ t ≤ 100000000:=by have:=HF.out; have:=M1.few; omega
  have U:=Lib.hid u3
  have V:=Lib.hid v3
  have u4 : top ds1 (splitOf ds x t).2 ≤ t:=by omega
  have v4 : top ds1 (splitOf ds y t).2 ≤ t:=by omega
  have HP:=Lib.hid hpow
  clear u2 v2 u3 v3 hpow
  go_wp2_with fail
  refine (IH.out w4 sv1 ds1 _ _ hA4 u1 v1 u4 v4 hk' hfew2).mono ?_
  rintro e w5 ⟨r2,ds2,M2,rfl,sv2,hA5,F5⟩
  have hfew3 : ds2.length < 100000000:=by have:=HF.out; have:=M1.few; have:=M2.few; have:=HP.out; omega
  obtain ⟨J,j1,j2⟩:=made_join M1 M2 (show t < vars by omega)
  have hD:=decide_any hA5 (t,r1,r2) (show t < vars by omega) j1 M2.lt j2 M2.top hfew3
  unfold keyOf at hD
  have HD:=Lib.hid hD
  clear hD
  go_wp2_with fail
  refine (HD.out).mono ?_
  rintro e w6 ⟨rfl,sv3,hA6,F6⟩
  go_wp2_with fail
  go_ret
  refine ⟨_,_,J.congr fun a => ?_,rfl,sv3,hA6,((F3.trans F4).trans F5).trans F6⟩
  rw [X5.out a,Y5.out a,U.out a,V.out a]
  split <;> rfl
end
end Bdd
namespace Bdd
open Go.RowKit Bd
section
variable {B p m vars : Nat}
theorem choose_low (c x y : Nat) (hc : c < 2) (w : World) : Calls Tryz.prog 139 #[.pointer (some ⟨p,0,none⟩), .int .i64 (c : Int), .int .i64 (x : Int), .int .i64 (y : Int)] w fun e w' => e = .returned (.int .i64 ((if c = 0 then y else x : Nat) : Int)) ∧ w = w':=by
 match c,hc with
 | 0,_ =>
  go_enter Tryz.func139,Tryz.ntmps139
  go_wp2_with fail
  go_ret
  exact ⟨rfl,rfl⟩
 | 1,_ =>
  go_enter Tryz.func139,Tryz.ntmps139
  go_wp2_with fail
  go_ret
  exact ⟨rfl,rfl⟩
theorem choose_any : ∀ (k : Nat) (w : World) (sv : Value) (ds : List Dec) (c x y : Nat),Ar w B p m sv vars ds → c < ds.length + 2 → x < ds.length + 2 → y < ds.length + 2 → top ds c ≤ k → top ds x ≤ k → top ds y ≤ k → k ≤ vars →
  ds.length + 2 ^ k ≤ 100000000 →
  Calls Tryz.prog 139 #[.pointer (some ⟨p,0,none⟩), .int .i64 (c : Int), .int .i64 (x : Int), .int .i64 (y : Int)] w (Makes w B p m sv vars ds (fun a => if S ds c a then S ds x a else S ds y a) k):=by
 intro k
 have low : ∀ (k : Nat) (w : World) (sv : Value) (ds : List Dec) (c x y : Nat),Ar w B p m sv vars ds → c < 2 → x < ds.length + 2 → y < ds.length + 2 → top ds x ≤ k → top ds y ≤ k →
   Calls Tryz.prog 139 #[.pointer (some ⟨p,0,none⟩), .int .i64 (c : Int), .int .i64 (x : Int), .int .i64 (y : Int)] w (Makes w B p m sv vars ds (fun a => if S ds c a then S ds x a else S ds y a) k):=by
  intro k w sv ds c x y h hc hx hy tx ty
  refine (choose_low c x y hc w).mono ?_
  rintro e w' ⟨rfl,rfl⟩
  refine ⟨_,ds,(Made.refl h.wf (n:=if c = 0 then y else x) (t:=k) (by split <;> assumption) (by split <;> assumption)).congr fun a => ?_,Gives.of_below h rfl (Below.refl _ _)⟩
  rw [S_lt2 hc]
  match c,hc with
  | 0,_ => rfl
  | 1,_ => rfl
 induction k with
 | zero =>
  intro w sv ds c x y h hc hx hy tc tx ty hk hfew
  exact low 0 w sv ds c x y h (by unfold top at tc; split at tc <;> omega) hx hy tx ty
 | succ t ih =>
  intro w sv ds c x y h hc hx hy tc tx ty hk hfew
  by_cases hc2 : c < 2
  ·exact low _ w sv ds c x y h hc2 hx hy tx ty
  by_cases hlow : top ds c ≤ t ∧ top ds x ≤ t ∧ top ds y ≤ t
  ·exact (ih w sv ds c x y h hc hx hy hlow.1 hlow.2.1 hlow.2.2 (by omega) (by rw [Nat.pow_succ] at hfew; have:=Nat.one_le_two_pow (n:=t); omega)).mono fun e w' ⟨r,ds',hM,hG⟩ => ⟨r,ds',hM.mono (by omega),hG⟩
  have hv8:=h.v8
  have hA:=h.alloc (.cells #[.int .i64 (c : Int), .int .i64 (x : Int), .int .i64 (y : Int)] 39)
  have hT:=top_any hA w.heap.size 3 3 (fun i => if i = 0 then c else if i = 1 then x else y) (by omega) (Nodes.new3 w c x y) (fun i _ => by split; assumption; split <;> assumption)
  have e0 : (tops ds (fun i => if i = 0 then c else if i = 1 then x else y) 3 : Int) - 1 = (t : Int):=by simp [tops]; omega
  rw [e0] at hT
  have HT:=Lib.hid hT
  obtain ⟨c1,c2,c3,c4,c5⟩:=split_ok h.wf hc tc
  obtain ⟨x1,x2,x3,x4,x5⟩:=split_ok h.wf hx tx
  obtain ⟨y1,y2,y3,y4,y5⟩:=split_ok h.wf hy ty
  have hc0 : ((c : Int) == 0) = false:=beq_eq_false_iff_ne.2 (by omega)
  have hc1 : ((c : Int) == 1) = false:=beq_eq_false_iff_ne.2 (by omega)
  have C5:=Lib.hid c5
  have X5:=Lib.hid x5
  have Y5:=Lib.hid y5
  have IH:=Lib.hid ih
  have HF:=Lib.hid hfew
  clear hT e0 c5 x5 y5 ih hfew hlow low
  go_enter Tryz.func139,Tryz.ntmps139
  go_wp2_with fail
  refine (HT.out).mono ?_
  rintro e w1 ⟨rfl,hb1⟩
  have hA1:=hA.below hb1
  go_wp2_with fail
  refine (split_any hA1 c t hc (by omega)).mono ?_
  rintro e w2 ⟨rfl,hb2⟩
  have hA2:=hA1.below hb2
  go_wp2_with fail
  refine (split_any hA2 x t hx (by omega)).mono ?_
  rintro e w3 ⟨rfl,hb3⟩
  have hA3:=hA2.below hb3
  go_wp2_with fail
  refine (split_any hA3 y t hy (by omega)).mono ?_
  rintro e w3' ⟨rfl,hb3'⟩
  have hA3':=hA3.below hb3'
  have hb03 : Below w.heap.size w w3':=by
   have b0 : Below w.heap.size w (w.alloc (.cells #[.int .i64 (c : Int), .int .i64 (x : Int), .int .i64 (y : Int)] 39)):=(Below.refl _ _).alloc (Nat.le_refl _) _
   have b1:=b0.trans (hb1.mono b0.size)
   have b2:=b1.trans (hb2.mono b1.size)
   have b3:=b2.trans (hb3.mono b2.size)
   exact b3.trans (hb3'.mono b3.size)
  have F3:=Fr.of_below hb03 p m sv
  have hk' : t ≤ vars:=by omega
  have hpow : 2 ^ (t + 1) = 2 ^ t + 2 ^ t:=by rw [Nat.pow_succ]; omega
  have hone : 1 ≤ 2 ^ t:=Nat.one_le_two_pow
  have hfew1 : ds.length + 2 ^ t ≤ 100000000:=by have:=HF.out; omega
  go_wp2_with fail
  refine (IH.out w3' sv ds _ _ _ hA3' c1 x1 y1 c3 x3 y3 hk' hfew1).mono ?_
  rintro e w4 ⟨r1,ds1,M1,rfl,sv1,hA4,F4⟩
  obtain ⟨d1,d2,d3⟩:=M1.old h.wf c2
  obtain ⟨u1,u2,u3⟩:=M1.old h.wf x2
  obtain ⟨v1,v2,v3⟩:=M1.old h.wf y2
  have hfew2 : ds1.length + 2 ^ t ≤ 100000000:=by have:=HF.out; have:=M1.few; omega
  have D:=Lib.hid d3
  have U:=Lib.hid u3
  have V:=Lib.hid v3
  have d4 : top ds1 (splitOf ds c t).2 ≤ t:=by omega
  have u4 : top ds1 (splitOf ds x t).2 ≤ t:=by omega
  have v4 : top ds1 (splitOf ds y t).2 ≤ t:=by omega
  have HP:=Lib.hid hpow
  clear d2 u2 v2 d3 u3 v3 hpow
  go_wp2_with fail
  refine (IH.out w4 sv1 ds1 _ _ _ hA4 d1 u1 v1 d4 u4 v4 hk' hfew2).mono ?_
  rintro e w5 ⟨r2,ds2,M2,rfl,sv2,hA5,F5⟩
  have hfew3 : ds2.length < 100000000:=by have:=HF.out; have:=M1.few; have:=M2.few; have:=HP.out; omega
  obtain ⟨J,j1,j2⟩:=made_join M1 M2 (show t < vars by omega)
  have hD:=decide_any hA5 (t,r1,r2) (show t < vars by omega) j1 M2.lt j2 M2.top hfew3
  unfold keyOf at hD
  have HD:=Lib.hid hD
  clear hD
  go_wp2_with fail
  refine (HD.out).mono ?_
  rintro e w6 ⟨rfl,sv3,hA6,F6⟩
  go_wp2_with fail
  go_ret
  refine ⟨_,_,J.congr fun a => ?_,rfl,sv3,hA6,((F3.trans F4).trans F5).trans F6⟩
  rw [C5.out a,X5.out a,Y5.out a,D.out a,U.out a,V.out a]
  by_cases e : a t = true <;> simp [e]
section
variable {W W' : World} {b : Nat} {d : Dec}
end
end
end Bdd
namespace Bdd
open Go.RowKit Bd
def Tells (w : World) (B p m : Nat) (sv : Value) (vars : Nat) (ds : List Dec) (g : (Nat → Bool) → Bool) (e : Ending) (w' : World) : Prop :=
 ∃ r ds' sv',Made vars ds ds' r g vars ∧ e = .returned (.tuple #[.int .i64 ((r : Nat) : Int), .int .i64 0]) ∧ Ar w' B p m sv' vars ds' ∧ Fr p m sv w sv' w'
theorem pow8 {v : Nat} (h : v ≤ 8) : 2 ^ v ≤ 256:=Nat.pow_le_pow_right (n:=2) (by omega) h
section
variable {w : World} {B p m vars : Nat} {sv : Value} {ds : List Dec}
theorem Tells.of {w1 w' : World} {e : Ending} {r : Nat} {ds' : List Dec} {g : (Nat → Bool) → Bool} (hb : Below w.heap.size w w1) (M : Made vars ds ds' r g vars) (he : e = .returned (.tuple #[.int .i64 ((r : Nat) : Int), .int .i64 0]))
  (hG : ∃ sv',Ar w' B p m sv' vars ds' ∧ Fr p m sv w1 sv' w') : Tells w B p m sv vars ds g e w':=by
 obtain ⟨sv',hA,F⟩:=hG
 exact ⟨r,ds',sv',M,he,hA,(Fr.of_below hb p m sv).trans F⟩
theorem join_any (f : Nat) (hf : f = 112 ∨ f = 113) (h : Ar w B p m sv vars ds) (x y : Nat) (hx : x < ds.length + 2) (hy : y < ds.length + 2) (hfew : ds.length + 256 ≤ 100000000) :
  Calls Tryz.prog 111 #[.pointer (some ⟨p,0,none⟩), .int .i64 (x : Int), .int .i64 (y : Int), .func (.func f) #[] #[]] w (Tells w B p m sv vars ds (fun a => opOf f (S ds x a) (S ds y a))):=by
 have hA:=h.alloc (.cells #[.int .i64 (x : Int), .int .i64 (y : Int)] 39)
 have hK:=knows_yes hA w.heap.size 2 2 _ (by omega) (Nodes.new2 w x y) (fun i _ => by split <;> omega)
 have hC:=combine_any f hf vars _ sv ds x y hA hx hy (top_le h.wf hx) (top_le h.wf hy) (Nat.le_refl _) (by have:=pow8 h.v8; omega)
 have HK:=Lib.hid hK
 have HC:=Lib.hid hC
 clear hK hC
 go_enter Tryz.func111,Tryz.ntmps111
 go_wp2_with fail
 refine (HK.out).mono ?_
 rintro e w1 ⟨rfl,rfl⟩
 go_wp2_with fail
 refine (HC.out).mono ?_
 rintro e w1 ⟨r,ds',M,rfl,G⟩
 go_wp2_with fail
 go_ret2
 exact Tells.of ((Below.refl _ _).alloc (Nat.le_refl _) _) M rfl G
theorem not_any (h : Ar w B p m sv vars ds) (x : Nat) (hx : x < ds.length + 2) (hfew : ds.length + 256 ≤ 100000000) :
  Calls Tryz.prog 66 #[.pointer (some ⟨p,0,none⟩), .int .i64 (x : Int)] w (Tells w B p m sv vars ds (fun a => !S ds x a)):=by
 have HC:=Lib.hid (join_any 112 (by simp) h x x hx hx hfew)
 go_enter Tryz.func66,Tryz.ntmps66
 go_wp2_with fail
 refine (HC.out).mono ?_
 rintro e w1 ⟨r,ds',sv',M,rfl,G⟩
 go_wp2_with fail
 go_ret2
 exact ⟨r,ds',sv',M,rfl,G⟩
theorem and_any (h : Ar w B p m sv vars ds) (x y : Nat) (hx : x < ds.length + 2) (hy : y < ds.length + 2) (hfew : ds.length + 256 ≤ 100000000) :
  Calls Tryz.prog 67 #[.pointer (some ⟨p,0,none⟩), .int .i64 (x : Int), .int .i64 (y : Int)] w (Tells w B p m sv vars ds (fun a => S ds x a && S ds y a)):=by
 have HC:=Lib.hid (join_any 113 (by simp) h x y hx hy hfew)
 go_enter Tryz.func67,Tryz.ntmps67
 go_wp2_with fail
 refine (HC.out).mono ?_
 rintro e w1 ⟨r,ds',sv',M,rfl,G⟩
 go_wp2_with fail
 go_ret2
 exact ⟨r,ds',sv',M,rfl,G⟩
theorem ite_any (h : Ar w B p m sv vars ds) (c x y : Nat) (hc : c < ds.length + 2) (hx : x < ds.length + 2) (hy : y < ds.length + 2) (hfew : ds.length + 256 ≤ 100000000) :
  Calls Tryz.prog 93 #[.pointer (some ⟨p,0,none⟩), .int .i64 (c : Int), .int .i64 (x : Int), .int .i64 (y : Int)] w (Tells w B p m sv vars ds (fun a => if S ds c a then S ds x a else S ds y a)):=by
 have hA:=h.alloc (.cells #[.int .i64 (c : Int), .int .i64 (x : Int), .int .i64 (y : Int)] 39)
 have hK:=knows_yes hA w.heap.size 3 3 _ (by omega) (Nodes.new3 w c x y) (fun i _ => by split; omega; split <;> omega)
 have hC:=choose_any vars _ sv ds c x y hA hc hx hy (top_le h.wf hc) (top_le h.wf hx) (top_le h.wf hy) (Nat.le_refl _) (by have:=pow8 h.v8; omega)
 have HK:=Lib.hid hK
 have HC:=Lib.hid hC
 clear hK hC
 go_enter Tryz.func93,Tryz.ntmps93
 go_wp2_with fail
 refine (HK.out).mono ?_
 rintro e w1 ⟨rfl,rfl⟩
 go_wp2_with fail
 refine (HC.out).mono ?_
 rintro e w1 ⟨r,ds',M,rfl,G⟩
 go_wp2_with fail
 go_ret2
 exact Tells.of ((Below.refl _ _).alloc (Nat.le_refl _) _) M rfl G
theorem var_any (h : Ar w B p m sv vars ds) (i : Nat) (hi : i < vars) (hfew : ds.length + 256 ≤ 100000000) :
  Calls Tryz.prog 65 #[.pointer (some ⟨p,0,none⟩), .int .i64 (i : Int)] w (Tells w B p m sv vars ds (fun a => a i)):=by
 have hN:=hasName_any h (i : Int)
 rw [show decide (0 ≤ (i : Int) ∧ (i : Int) < vars) = true from by simp; omega] at hN
 have M0:=Made.refl (vars:=vars) h.wf (n:=0) (t:=i) (by omega) (by simp [top])
 have M1:=Made.refl (vars:=vars) h.wf (n:=1) (t:=i) (by omega) (by simp [top])
 obtain ⟨J,j1,j2⟩:=made_join M0 M1 hi
 have hD:=decide_any h (i,0,1) hi j1 M1.lt j2 M1.top (by omega)
 unfold keyOf at hD
 have HN:=Lib.hid hN
 have HD:=Lib.hid hD
 clear hN hD
 go_enter Tryz.func65,Tryz.ntmps65
 go_wp2_with fail
 refine (HN.out).mono ?_
 rintro e w1 ⟨rfl,rfl⟩
 go_wp2_with fail
 refine (HD.out).mono ?_
 rintro e w1 ⟨rfl,G⟩
 go_wp2_with fail
 go_ret2
 refine Tells.of (Below.refl _ _) ((J.mono (show i + 1 ≤ vars by omega)).congr fun a => ?_) rfl G
 rw [S_lt2 (by omega),S_lt2 (by omega)]
 cases a i <;> rfl
end
end Bdd
end Go.Proofs.YthekfpgegiffoaaGreatDoor
