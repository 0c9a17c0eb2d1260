/- Expressions in memory, as the program holds them behind its interface. (and what stands with it) -/
import Derived.Test.YthekfpgegiffoaaGreatDoorQc
import Derived.Test.YthekfpgegiffoaaGreatDoorQb
import Derived.Handy
set_option linter.unusedSimpArgs false
set_option linter.unusedVariables false
set_option maxHeartbeats 16000000
set_option maxRecDepth 100000
namespace Go.Proofs.YthekfpgegiffoaaGreatDoor
section
open Go.RowKit Go.Shelf
open Ie (E)
def Ie.fold (x : E) : List (ByteArray × E × Value) → E
 | [] => x
 | (s,y,_) :: r => Ie.fold (.bin s x y) r
theorem Ie.fold_snoc (x : E) (ys : List (ByteArray × E × Value)) (s : ByteArray) (y : E) (v : Value) : Ie.fold x (ys ++ [(s,y,v)]) = .bin s (Ie.fold x ys) y:=by
 induction ys generalizing x with
 | nil => rfl
 | cons a r ih => obtain ⟨s',y',v'⟩:=a; exact ih _
inductive Ex (w : World) (ok : Nat → Prop) : E → Value → Prop
 | num (n : Int) : Ex w ok (.num n) (.iface 424 (.int .i64 n))
 | bad : Ex w ok .bad (.iface 424 (.int .i64 0))
 | un (s : ByteArray) (x : E) (v : Value) : Ex w ok x v → Ex w ok (.un s x) (.iface 441 (.agg #[.string s,v]))
 | ask (x y z : E) (a b c : Value) : Ex w ok x a → Ex w ok y b → Ex w ok z c → Ex w ok (.ask x y z) (.iface 356 (.agg #[a,b,c]))
 | chain (x : E) (v : Value) (ys : List (ByteArray × E × Value)) (b cap : Nat) : Ex w ok x v → ok b → ys.length ≤ cap → cap ≤ maxLen →
   (∀ (i : Nat) s y u,ys[i]? = some (s,y,u) → Ie.lvS s ≠ 0 ∧ w.cell? ⟨b,i * 2,none⟩ = some (.string s) ∧ w.cell? ⟨b,i * 2 + 1,none⟩ = some u) →
   (∀ (i : Nat) s y u,ys[i]? = some (s,y,u) → Ex w ok y u) → Ex w ok (Ie.fold x ys) (.iface 398 (.agg #[v, .slice (some ⟨b,0,none⟩) ys.length cap]))
theorem Ex.keep {w W : World} {ok ok' : Nat → Prop} {T : E} {v : Value} (h : Ex w ok T v) (hk : ∀ b,ok b → ok' b ∧ W.heap[b]? = w.heap[b]?) : Ex W ok' T v:=by
 induction h with
 | num n => exact .num n
 | bad => exact .bad
 | un s x v _ ih => exact .un s x v ih
 | ask x y z a b c _ _ _ i1 i2 i3 => exact .ask x y z a b c i1 i2 i3
 | chain x v ys b cap _ hb h1 h2 h3 _ ix iy =>
  refine .chain x v ys b cap ix (hk b hb).1 h1 h2 (fun i s y u hi => ?_) iy
  obtain ⟨k0,k1,k2⟩:=h3 i s y u hi
  exact ⟨k0,(World.cell?_of_block (a:=⟨b,i * 2,none⟩) (hk b hb).2).trans k1,(World.cell?_of_block (a:=⟨b,i * 2 + 1,none⟩) (hk b hb).2).trans k2⟩
def ValPost (T : E) (w : World) (e : Ending) (w' : World) : Prop:=e = .returned (.tuple #[.int .i64 (Ie.comes T).1, .int .i64 (Ie.comes T).2]) ∧ Below w.heap.size w w'
def VM (v : Value) (T : E) (w : World) : Prop :=
 ∃ t p f,v = .iface t p ∧ (∀ W,(nilAhead 621 t p "emend/ifexpr.value").run Tryz.prog W = .ok (some false) W) ∧ (∀ W,(method 621 t p "emend/ifexpr.value").run Tryz.prog W = .ok (f,p) W) ∧ (∀ W,(callFunc f #[p]).run Tryz.prog W = .ok (.enter f #[p]) W) ∧ Calls Tryz.prog f #[p] w (ValPost T w)
theorem vatom_any (n : Int) (w : World) : Calls Tryz.prog 397 #[.int .i64 n] w (ValPost (.num n) w):=by
 go_enter Tryz.func397,Tryz.ntmps397
 go_wp2_with fail
 go_returns
 exact ⟨rfl,Below.refl _ _⟩
theorem truth_any (b : Bool) (w : World) : Calls Tryz.prog 392 #[.bool b] w fun e w' => e = .returned (.int .i64 (Ie.one b)) ∧ w' = w:=by
 go_enter Tryz.func392,Tryz.ntmps392
 cases b
 ·go_wp2_with fail
  go_ret
  exact ⟨rfl,rfl⟩
 ·go_wp2_with fail
  go_ret
  exact ⟨rfl,rfl⟩
theorem box3v {W : World} {b t : Nat} {a0 a1 a2 : Value} (h : W.heap[b]? = some (.cells #[a0,a1,a2] t (0,0))) :
  W.cell? ⟨b,0,none⟩ = some a0 ∧ W.cell? ⟨b,1,none⟩ = some a1 ∧ W.cell? ⟨b,2,none⟩ = some a2 :=
 ⟨(Lib.cell_of_heap h 0).trans rfl,(Lib.cell_of_heap h 1).trans rfl,(Lib.cell_of_heap h 2).trans rfl⟩
theorem box2v {W : World} {b t : Nat} {a0 a1 : Value} (h : W.heap[b]? = some (.cells #[a0,a1] t (0,0))) :
  W.cell? ⟨b,0,none⟩ = some a0 ∧ W.cell? ⟨b,1,none⟩ = some a1 :=
 ⟨(Lib.cell_of_heap h 0).trans rfl,(Lib.cell_of_heap h 1).trans rfl⟩
theorem below_heap {W W' : World} {b : Nat} {o : Obj} (h : Below W.heap.size W W') (hb : W.heap[b]? = some o) : W'.heap[b]? = some o:=(h.block b (Array.getElem?_eq_some_iff.1 hb).1).trans hb
theorem choice_any (x y z : E) (a b c : Value) (w : World) (ha : ∀ W,Below w.heap.size w W → VM a x W) (hb : ∀ W,Below w.heap.size w W → VM b y W) (hc : ∀ W,Below w.heap.size w W → VM c z W) :
  Calls Tryz.prog 389 #[.agg #[a,b,c]] w (ValPost (.ask x y z) w):=by
 have HA:=Lib.hid ha
 have HB:=Lib.hid hb
 have HC:=Lib.hid hc
 clear ha hb hc
 have hB1 : Below w.heap.size w (w.alloc (.cells #[a,b,c] 356)):=Below.alloc (Below.refl _ _) (Nat.le_refl _) _
 have hbx : (w.alloc (.cells #[a,b,c] 356)).heap[w.heap.size]? = some (.cells #[a,b,c] 356 (0,0)):=heap_alloc_new w _
 obtain ⟨t,p,f,rfl,hn,hm,he,hcl⟩:=HA.out _ hB1
 obtain ⟨ex,hex⟩ : ∃ ex,ex = (Ie.comes x).2:=⟨_,rfl⟩
 obtain ⟨vx,hvx⟩ : ∃ vx,vx = (Ie.comes x).1:=⟨_,rfl⟩
 have HM:=Lib.hid hcl
 have HB1:=Lib.hid hB1
 have HX:=Lib.hid hbx
 have HE:=Lib.hid hex
 have HV:=Lib.hid hvx
 clear hcl hB1 hbx hex hvx
 go_enter Tryz.func389,Tryz.ntmps389
 go_wp2_with fail
 refine HM.out.mono ?_
 rintro e w2 ⟨rfl,hB2⟩
 rw [← HE.out,← HV.out]
 have hb2:=below_heap hB2 HX.out
 obtain ⟨-,k1,k2⟩:=box3v hb2
 have hw2:=Below.then HB1.out hB2
 have HW2:=Lib.hid hw2
 clear hB2 hb2 hw2 hn hm he HM
 by_cases h0 : ex = 0
 ·by_cases h1 : vx = 0
  ·obtain ⟨t',p',f',rfl,hn,hm,he,hcl⟩:=HC.out _ HW2.out
   have HM:=Lib.hid hcl
   clear hcl
   go_wp2_with fail
   refine HM.out.mono ?_
   rintro e w3 ⟨rfl,hB3⟩
   go_wp2_with fail
   go_ret2
   refine ⟨?_,Below.then HW2.out hB3⟩
   simp only [Ie.comes]
   rw [← HE.out,← HV.out,if_neg (fun h => h h0),if_neg (fun h => h h1)]
   rfl
  ·obtain ⟨t',p',f',rfl,hn,hm,he,hcl⟩:=HB.out _ HW2.out
   have HM:=Lib.hid hcl
   clear hcl
   go_wp2_with fail
   refine HM.out.mono ?_
   rintro e w3 ⟨rfl,hB3⟩
   go_wp2_with fail
   go_ret2
   refine ⟨?_,Below.then HW2.out hB3⟩
   simp only [Ie.comes]
   rw [← HE.out,← HV.out,if_neg (fun h => h h0),if_pos h1]
   rfl
 ·go_wp2_with fail
  go_ret2
  refine ⟨?_,HW2.out⟩
  simp only [Ie.comes]
  rw [← HE.out,if_pos h0]
  rfl
theorem wrap64_w (n : Int) : wrap64 n = Ie.w64 n:=by simp only [wrap64,Ie.w64,IntKind.wrap_i64]
theorem xor64 (n : Int) : IntKind.i64.wrap ((BitVec.ofInt 64 (-1) ^^^ BitVec.ofInt 64 n).toNat : Int) = IntKind.i64.wrap (-1 - n):=by
 have h : BitVec.ofInt 64 (-1) ^^^ BitVec.ofInt 64 n = ~~~ (BitVec.ofInt 64 n):=by
  rw [show BitVec.ofInt 64 (-1) = BitVec.allOnes 64 by decide,BitVec.allOnes_xor]
 rw [h,BitVec.toNat_not,IntKind.wrap_i64,IntKind.wrap_i64]
 have:=(BitVec.ofInt 64 n).isLt
 have e : ((BitVec.ofInt 64 n).toNat : Int) = n % 18446744073709551616:=by rw [BitVec.toNat_ofInt]; omega
 omega
theorem ahead_any (s : ByteArray) (x : E) (a : Value) (w : World) (ha : ∀ W,Below w.heap.size w W → VM a x W) :
  Calls Tryz.prog 398 #[.agg #[.string s,a]] w (ValPost (.un s x) w):=by
 have hB1 : Below w.heap.size w (w.alloc (.cells #[.string s,a] 441)):=Below.alloc (Below.refl _ _) (Nat.le_refl _) _
 have hbx : (w.alloc (.cells #[.string s,a] 441)).heap[w.heap.size]? = some (.cells #[.string s,a] 441 (0,0)):=heap_alloc_new w _
 obtain ⟨t,p,f,rfl,hn,hm,he,hcl⟩:=ha _ hB1
 obtain ⟨ex,hex⟩ : ∃ ex,ex = (Ie.comes x).2:=⟨_,rfl⟩
 obtain ⟨vx,hvx⟩ : ∃ vx,vx = (Ie.comes x).1:=⟨_,rfl⟩
 have HM:=Lib.hid hcl
 have HB1:=Lib.hid hB1
 have HX:=Lib.hid hbx
 have HE:=Lib.hid hex
 have HV:=Lib.hid hvx
 clear hcl hB1 hbx hex hvx ha
 go_enter Tryz.func398,Tryz.ntmps398
 go_wp2_with fail
 refine HM.out.mono ?_
 rintro e w2 ⟨rfl,hB2⟩
 rw [← HE.out,← HV.out]
 have hb2:=below_heap hB2 HX.out
 obtain ⟨k0, -⟩:=box2v hb2
 have hw2:=Below.then HB1.out hB2
 have HW2:=Lib.hid hw2
 clear hB2 hb2 hw2 hn hm he HM
 by_cases h0 : ex = 0
 ·by_cases h1 : s = Ie.sSub
  ·have e1 : (s.toList == [45]) = true:=lit_yes h1
   have G1:=Lib.hid h1
   clear h1
   go_wp2_with fail
   go_ret2
   refine ⟨?_,HW2.out⟩
   simp only [Ie.comes,Ie.una]
   rw [← HE.out,← HV.out,if_neg (fun h => h h0),if_pos G1.out]
   rw [wrap64_w,Int.zero_sub]
   rfl
  ·have e1 : (s.toList == [45]) = false:=lit_no h1
   have G1:=Lib.hid h1
   clear h1
   by_cases h2 : s = Ie.sNot
   ·have e2 : (s.toList == [33]) = true:=lit_yes h2
    have G2:=Lib.hid h2
    clear h2
    go_wp2_with fail
    refine (truth_any _ _).mono ?_
    rintro e w3 ⟨rfl,rfl⟩
    go_wp2_with fail
    go_ret2
    refine ⟨?_,HW2.out⟩
    simp only [Ie.comes,Ie.una]
    rw [← HE.out,← HV.out,if_neg (fun h => h h0),if_neg G1.out,if_pos G2.out]
    rfl
   ·have e2 : (s.toList == [33]) = false:=lit_no h2
    have G2:=Lib.hid h2
    clear h2
    by_cases h3 : s = Ie.sTil
    ·have e3 : (s.toList == [126]) = true:=lit_yes h3
     have G3:=Lib.hid h3
     clear h3
     go_wp2_with fail
     go_ret2
     refine ⟨?_,HW2.out⟩
     simp only [Ie.comes,Ie.una]
     rw [← HE.out,← HV.out,if_neg (fun h => h h0),if_neg G1.out,if_neg G2.out,if_pos G3.out]
     simp only [Ie.w64,← xor64]
     try rfl
    ·have e3 : (s.toList == [126]) = false:=lit_no h3
     have G3:=Lib.hid h3
     clear h3
     go_wp2_with fail
     go_ret2
     refine ⟨?_,HW2.out⟩
     simp only [Ie.comes,Ie.una]
     rw [← HE.out,← HV.out,if_neg (fun h => h h0),if_neg G1.out,if_neg G2.out,if_neg G3.out]
     rfl
 ·go_wp2_with fail
  go_ret2
  refine ⟨?_,HW2.out⟩
  simp only [Ie.comes]
  rw [← HE.out,if_pos h0]
  rfl
end
section
open Go.RowKit Go.Shelf
open Ie (E)
structure Fb (R : Nat) (w w' : World) : Prop where
 os : w'.os = w.os
 tape : w'.tape = w.tape
 output : w'.output = w.output
 size : w.heap.size ≤ w'.heap.size
 block : ∀ k,k < w.heap.size → k ≠ R → w'.heap[k]? = w.heap[k]?
section
variable {R : Nat} {w w1 w2 W : World}
theorem Fb.refl (R : Nat) (w : World) : Fb R w w:=⟨rfl,rfl,rfl,Nat.le_refl _,fun _ _ _ => rfl⟩
theorem Fb.trans (h : Fb R w w1) (k : Fb R w1 w2) : Fb R w w2 :=
 ⟨k.os.trans h.os,k.tape.trans h.tape,k.output.trans h.output,Nat.le_trans h.size k.size,fun i hi hn => (k.block i (Nat.lt_of_lt_of_le hi h.size) hn).trans (h.block i hi hn)⟩
theorem Fb.of (h : Below w.heap.size w W) : Fb R w W:=⟨h.os,h.tape,h.output,h.size,fun k hk _ => h.block k hk⟩
theorem Fb.then (h : Fb R w w1) (k : Below w1.heap.size w1 w2) : Fb R w w2:=h.trans (.of k)
theorem Fb.set (h : Fb R w W) (i : Nat) (v : Value) : Fb R w (W.setCell ⟨R,i,none⟩ v) :=
 ⟨h.os,h.tape,h.output,by simpa [World.setCell] using h.size,fun k hk hn => (heap_setCell_other W ⟨R,i,none⟩ k v hn).trans (h.block k hk hn)⟩
theorem Fb.below (h : Fb R w W) {n : Nat} (hn : n ≤ R) (hw : n ≤ w.heap.size) : Below n w W:=⟨h.os,h.tape,h.output,h.size,fun k hk => h.block k (by omega) (by omega)⟩
end
def Lv (W : World) (R B : Nat) (v : Value) (l : List K) : Prop :=
 ∃ ad cap,v = .slice ad l.length cap ∧ l.length ≤ cap ∧ cap ≤ maxLen ∧ ∀ i t,l[i]? = some t → ∃ g o,ad = some ⟨g,o,none⟩ ∧ (g ≠ R ∧ g < B) ∧ KAt W g (o + i * 6) t
theorem Lv.keep {W W' : World} {R B : Nat} {v : Value} {l : List K} (h : Lv W R B v l) (hf : Fb R W W') : Lv W' R B v l:=by
 obtain ⟨ad,cap,rfl,h1,h2,h3⟩:=h
 refine ⟨ad,cap,rfl,h1,h2,fun i t ht => ?_⟩
 obtain ⟨g,o,e,hg,c⟩:=h3 i t ht
 exact ⟨g,o,e,hg,c.kept (hf.block g (lt_of_cell c.1) hg.1)⟩
theorem Lv.nil (W : World) (R B : Nat) (ad : Option Addr) (cap : Nat) (hc : cap ≤ maxLen) : Lv W R B (.slice ad 0 cap) []:=⟨ad,cap,rfl,Nat.zero_le _,hc,fun i t ht => by simp at ht⟩
theorem Lv.cons {W : World} {R B : Nat} {v : Value} {t : K} {r : List K} (h : Lv W R B v (t :: r)) :
  ∃ g o cap,v = .slice (some ⟨g,o,none⟩) (r.length + 1) cap ∧ r.length + 1 ≤ cap ∧ cap ≤ maxLen ∧ (g ≠ R ∧ g < B) ∧ KAt W g o t ∧
   ∀ x,(1 < cap → x = 6) → Lv W R B (.slice (some ⟨g,o + x,none⟩) r.length (cap - 1)) r:=by
 obtain ⟨ad,cap,rfl,h1,h2,h3⟩:=h
 obtain ⟨g,o,rfl,hg,c0⟩:=h3 0 t rfl
 simp only [Nat.zero_mul,Nat.add_zero] at c0
 simp only [List.length_cons] at h1
 refine ⟨g,o,cap,rfl,h1,h2,hg,c0,fun x hx => ⟨_,_,rfl,by omega,by omega,fun i u hu => ?_⟩⟩
 have hlt:=(List.getElem?_eq_some_iff.1 hu).1
 obtain ⟨g',o',e,hg',c⟩:=h3 (i + 1) u hu
 injection e with e
 injection e with e1 e2
 subst e1 e2
 refine ⟨g,o + x,rfl,hg,?_⟩
 rw [hx (by omega),show o + 6 + i * 6 = o + (i + 1) * 6 by omega]
 exact c
theorem Lv.grown {W w2 W' : World} {R B : Nat} {v : Value} {l : List K} {row : Option Nat} (h : Lv W R B v l) (hB : Below W.heap.size W w2) (hg : w2.grownBy W' row) (hr : ∀ k,row = some k → B ≤ k) : Lv W' R B v l:=by
 obtain ⟨ad,cap,rfl,h1,h2,h3⟩:=h
 refine ⟨ad,cap,rfl,h1,h2,fun i t ht => ?_⟩
 obtain ⟨g,o,e,hgg,c⟩:=h3 i t ht
 have hlt:=lt_of_cell c.1
 have hsz:=hB.size
 refine ⟨g,o,e,hgg,c.kept ((hg.block g (Nat.lt_of_lt_of_le hlt hsz) fun e => ?_).trans (hB.block g hlt))⟩
 have:=hr g e.symm
 omega
def RS (W : World) (R B : Nat) (l : List K) (b : Bool) (e : Int) : Prop :=
 ∃ lv,W.heap[R]? = some (.cells #[lv, .bool b, .int .i64 e] 321 (0,0)) ∧ Lv W R B lv l
section
variable {W W' : World} {R B : Nat} {l : List K} {b : Bool} {e : Int} {lv : Value}
theorem RS.keep (h : RS W R B l b e) (hB : Below W.heap.size W W') : RS W' R B l b e:=by
 obtain ⟨lv,h1,h2⟩:=h
 exact ⟨lv,below_heap hB h1,h2.keep (.of hB)⟩
theorem RS.grown {w2 : World} {row : Option Nat} (h : RS W R B l b e) (hB : Below W.heap.size W w2) (hg : w2.grownBy W' row) (hr : ∀ k,row = some k → B ≤ k ∧ R < k) : RS W' R B l b e:=by
 obtain ⟨lv,h1,h2⟩:=h
 have hlt : R < W.heap.size:=(Array.getElem?_eq_some_iff.1 h1).1
 refine ⟨lv,?_,h2.grown hB hg fun k hk => (hr k hk).1⟩
 rw [hg.block R (Nat.lt_of_lt_of_le hlt hB.size) (fun e => by have:=(hr R e.symm).2; omega),hB.block R hlt]
 exact h1
theorem rdr_set0 (h : W.heap[R]? = some (.cells #[lv, .bool b, .int .i64 e] 321 (0,0))) (v : Value) : (W.setCell ⟨R,0,none⟩ v).heap[R]? = some (.cells #[v, .bool b, .int .i64 e] 321 (0,0)):=by
 simp [World.setCell,Array.getElem?_modify,h]
theorem rdr_set1 (h : W.heap[R]? = some (.cells #[lv, .bool b, .int .i64 e] 321 (0,0))) (v : Bool) : (W.setCell ⟨R,1,none⟩ (.bool v)).heap[R]? = some (.cells #[lv, .bool v, .int .i64 e] 321 (0,0)):=by
 simp [World.setCell,Array.getElem?_modify,h]
theorem rdr_set2 (h : W.heap[R]? = some (.cells #[lv, .bool b, .int .i64 e] 321 (0,0))) (v : Int) : (W.setCell ⟨R,2,none⟩ (.int .i64 v)).heap[R]? = some (.cells #[lv, .bool b, .int .i64 v] 321 (0,0)):=by
 simp [World.setCell,Array.getElem?_modify,h]
theorem Lv.set (h : Lv W R B lv l) (i : Nat) (v : Value) : Lv (W.setCell ⟨R,i,none⟩ v) R B lv l:=h.keep ((Fb.refl R W).set i v)
theorem rdr_lt {lv b e : Value} (h : W.heap[R]? = some (.cells #[lv,b,e] 321 (0,0))) : R < W.heap.size:=(Array.getElem?_eq_some_iff.1 h).1
end
theorem isign_any (t : K) (s : ByteArray) (w : World) : Calls Tryz.prog 183 #[kAgg t, .string s] w fun e w' => e = .returned (.bool (Ie.isS t s)) ∧ Below w.heap.size w w':=by
 obtain ⟨kd,tx,f,fr,en,bl⟩:=t
 have hB1 : ∀ kd,Below w.heap.size w (w.alloc (.cells #[.int .i64 kd, .string tx, .int .i64 f, .int .i64 fr, .int .i64 en, .bool bl] 63)):=fun _ => Below.alloc (Below.refl _ _) (Nat.le_refl _) _
 have HB:=Lib.hid hB1
 clear hB1
 unfold kAgg
 by_cases hk : kd = 5
 ·by_cases ht : tx = s
  ·have e1 : (tx.toList == s.toList) = true:=by rw [ba_beq]; exact decide_eq_true ht
   have HT:=Lib.hid ht
   clear ht
   go_enter Tryz.func183,Tryz.ntmps183
   go_wp2_with fail
   go_ret
   refine ⟨?_,HB.out _⟩
   simp [Ie.isS,HT.out,hk]
  ·have e1 : (tx.toList == s.toList) = false:=lit_ne ht
   have HT:=Lib.hid ht
   clear ht
   go_enter Tryz.func183,Tryz.ntmps183
   go_wp2_with fail
   go_ret
   refine ⟨?_,HB.out _⟩
   simp [Ie.isS,HT.out,hk]
 ·go_enter Tryz.func183,Tryz.ntmps183
  go_wp2_with fail
  go_ret
  refine ⟨?_,HB.out _⟩
  simp [Ie.isS,hk]
theorem level_any (t : K) (w : World) : Calls Tryz.prog 254 #[kAgg t] w fun e w' => e = .returned (.int .i64 (Ie.lvOf t : Nat)) ∧ Below w.heap.size w w':=by
 obtain ⟨kd,s,f,fr,en,bl⟩:=t
 have hB1 : ∀ kd,Below w.heap.size w (w.alloc (.cells #[.int .i64 kd, .string s, .int .i64 f, .int .i64 fr, .int .i64 en, .bool bl] 63)):=fun _ => Below.alloc (Below.refl _ _) (Nat.le_refl _) _
 have HB:=Lib.hid hB1
 clear hB1
 unfold kAgg
 by_cases hk : kd = 5
 ·have hl : Ie.lvOf ⟨kd,s,f,fr,en,bl⟩ = Ie.lvS s:=if_pos hk
  rw [hl]
  clear hl
  by_cases h0 : s = Ie.sOr
  ·have e0 : (s.toList == [124,124]) = true:=lit_yes h0
   have hl : Ie.lvS s = 1:=by
    unfold Ie.lvS
    rw [if_pos h0]
   rw [hl]
   clear hl h0
   go_enter Tryz.func254,Tryz.ntmps254
   go_wp2_with fail
   go_ret
   exact ⟨rfl,HB.out _⟩
  have e0 : (s.toList == [124,124]) = false:=lit_no h0
  by_cases h1 : s = Ie.sAnd
  ·have e1 : (s.toList == [38,38]) = true:=lit_yes h1
   have hl : Ie.lvS s = 2:=by
    unfold Ie.lvS
    rw [if_neg h0,if_pos h1]
   rw [hl]
   clear hl h1
   go_enter Tryz.func254,Tryz.ntmps254
   go_wp2_with fail
   go_ret
   exact ⟨rfl,HB.out _⟩
  have e1 : (s.toList == [38,38]) = false:=lit_no h1
  by_cases h2 : s = Ie.sBar
  ·have e2 : (s.toList == [124]) = true:=lit_yes h2
   have hl : Ie.lvS s = 3:=by
    unfold Ie.lvS
    rw [if_neg h0,if_neg h1,if_pos h2]
   rw [hl]
   clear hl h2
   go_enter Tryz.func254,Tryz.ntmps254
   go_wp2_with fail
   go_ret
   exact ⟨rfl,HB.out _⟩
  have e2 : (s.toList == [124]) = false:=lit_no h2
  by_cases h3 : s = Ie.sHat
  ·have e3 : (s.toList == [94]) = true:=lit_yes h3
   have hl : Ie.lvS s = 4:=by
    unfold Ie.lvS
    rw [if_neg h0,if_neg h1,if_neg h2,if_pos h3]
   rw [hl]
   clear hl h3
   go_enter Tryz.func254,Tryz.ntmps254
   go_wp2_with fail
   go_ret
   exact ⟨rfl,HB.out _⟩
  have e3 : (s.toList == [94]) = false:=lit_no h3
  by_cases h4 : s = Ie.sAmp
  ·have e4 : (s.toList == [38]) = true:=lit_yes h4
   have hl : Ie.lvS s = 5:=by
    unfold Ie.lvS
    rw [if_neg h0,if_neg h1,if_neg h2,if_neg h3,if_pos h4]
   rw [hl]
   clear hl h4
   go_enter Tryz.func254,Tryz.ntmps254
   go_wp2_with fail
   go_ret
   exact ⟨rfl,HB.out _⟩
  have e4 : (s.toList == [38]) = false:=lit_no h4
  by_cases h5 : s = Ie.sEq
  ·have e5 : (s.toList == [61,61]) = true:=lit_yes h5
   have hl : Ie.lvS s = 6:=by
    unfold Ie.lvS
    rw [if_neg h0,if_neg h1,if_neg h2,if_neg h3,if_neg h4,if_pos h5]
   rw [hl]
   clear hl h5
   go_enter Tryz.func254,Tryz.ntmps254
   go_wp2_with fail
   go_ret
   exact ⟨rfl,HB.out _⟩
  have e5 : (s.toList == [61,61]) = false:=lit_no h5
  by_cases h6 : s = Ie.sNe
  ·have e6 : (s.toList == [33,61]) = true:=lit_yes h6
   have hl : Ie.lvS s = 6:=by
    unfold Ie.lvS
    rw [if_neg h0,if_neg h1,if_neg h2,if_neg h3,if_neg h4,if_neg h5,if_pos h6]
   rw [hl]
   clear hl h6
   go_enter Tryz.func254,Tryz.ntmps254
   go_wp2_with fail
   go_ret
   exact ⟨rfl,HB.out _⟩
  have e6 : (s.toList == [33,61]) = false:=lit_no h6
  by_cases h7 : s = Ie.sLt
  ·have e7 : (s.toList == [60]) = true:=lit_yes h7
   have hl : Ie.lvS s = 7:=by
    unfold Ie.lvS
    rw [if_neg h0,if_neg h1,if_neg h2,if_neg h3,if_neg h4,if_neg h5,if_neg h6,if_pos h7]
   rw [hl]
   clear hl h7
   go_enter Tryz.func254,Tryz.ntmps254
   go_wp2_with fail
   go_ret
   exact ⟨rfl,HB.out _⟩
  have e7 : (s.toList == [60]) = false:=lit_no h7
  by_cases h8 : s = Ie.sGt
  ·have e8 : (s.toList == [62]) = true:=lit_yes h8
   have hl : Ie.lvS s = 7:=by
    unfold Ie.lvS
    rw [if_neg h0,if_neg h1,if_neg h2,if_neg h3,if_neg h4,if_neg h5,if_neg h6,if_neg h7,if_pos h8]
   rw [hl]
   clear hl h8
   go_enter Tryz.func254,Tryz.ntmps254
   go_wp2_with fail
   go_ret
   exact ⟨rfl,HB.out _⟩
  have e8 : (s.toList == [62]) = false:=lit_no h8
  by_cases h9 : s = Ie.sLe
  ·have e9 : (s.toList == [60,61]) = true:=lit_yes h9
   have hl : Ie.lvS s = 7:=by
    unfold Ie.lvS
    rw [if_neg h0,if_neg h1,if_neg h2,if_neg h3,if_neg h4,if_neg h5,if_neg h6,if_neg h7,if_neg h8,if_pos h9]
   rw [hl]
   clear hl h9
   go_enter Tryz.func254,Tryz.ntmps254
   go_wp2_with fail
   go_ret
   exact ⟨rfl,HB.out _⟩
  have e9 : (s.toList == [60,61]) = false:=lit_no h9
  by_cases h10 : s = Ie.sGe
  ·have e10 : (s.toList == [62,61]) = true:=lit_yes h10
   have hl : Ie.lvS s = 7:=by
    unfold Ie.lvS
    rw [if_neg h0,if_neg h1,if_neg h2,if_neg h3,if_neg h4,if_neg h5,if_neg h6,if_neg h7,if_neg h8,if_neg h9,if_pos h10]
   rw [hl]
   clear hl h10
   go_enter Tryz.func254,Tryz.ntmps254
   go_wp2_with fail
   go_ret
   exact ⟨rfl,HB.out _⟩
  have e10 : (s.toList == [62,61]) = false:=lit_no h10
  by_cases h11 : s = Ie.sShl
  ·have e11 : (s.toList == [60,60]) = true:=lit_yes h11
   have hl : Ie.lvS s = 8:=by
    unfold Ie.lvS
    rw [if_neg h0,if_neg h1,if_neg h2,if_neg h3,if_neg h4,if_neg h5,if_neg h6,if_neg h7,if_neg h8,if_neg h9,if_neg h10,if_pos h11]
   rw [hl]
   clear hl h11
   go_enter Tryz.func254,Tryz.ntmps254
   go_wp2_with fail
   go_ret
   exact ⟨rfl,HB.out _⟩
  have e11 : (s.toList == [60,60]) = false:=lit_no h11
  by_cases h12 : s = Ie.sShr
  ·have e12 : (s.toList == [62,62]) = true:=lit_yes h12
   have hl : Ie.lvS s = 8:=by
    unfold Ie.lvS
    rw [if_neg h0,if_neg h1,if_neg h2,if_neg h3,if_neg h4,if_neg h5,if_neg h6,if_neg h7,if_neg h8,if_neg h9,if_neg h10,if_neg h11,if_pos h12]
   rw [hl]
   clear hl h12
   go_enter Tryz.func254,Tryz.ntmps254
   go_wp2_with fail
   go_ret
   exact ⟨rfl,HB.out _⟩
  have e12 : (s.toList == [62,62]) = false:=lit_no h12
  by_cases h13 : s = Ie.sAdd
  ·have e13 : (s.toList == [43]) = true:=lit_yes h13
   have hl : Ie.lvS s = 9:=by
    unfold Ie.lvS
    rw [if_neg h0,if_neg h1,if_neg h2,if_neg h3,if_neg h4,if_neg h5,if_neg h6,if_neg h7,if_neg h8,if_neg h9,if_neg h10,if_neg h11,if_neg h12,if_pos h13]
   rw [hl]
   clear hl h13
   go_enter Tryz.func254,Tryz.ntmps254
   go_wp2_with fail
   go_ret
   exact ⟨rfl,HB.out _⟩
  have e13 : (s.toList == [43]) = false:=lit_no h13
  by_cases h14 : s = Ie.sSub
  ·have e14 : (s.toList == [45]) = true:=lit_yes h14
   have hl : Ie.lvS s = 9:=by
    unfold Ie.lvS
    rw [if_neg h0,if_neg h1,if_neg h2,if_neg h3,if_neg h4,if_neg h5,if_neg h6,if_neg h7,if_neg h8,if_neg h9,if_neg h10,if_neg h11,if_neg h12,if_neg h13,if_pos h14]
   rw [hl]
   clear hl h14
   go_enter Tryz.func254,Tryz.ntmps254
   go_wp2_with fail
   go_ret
   exact ⟨rfl,HB.out _⟩
  have e14 : (s.toList == [45]) = false:=lit_no h14
  by_cases h15 : s = Ie.sMul
  ·have e15 : (s.toList == [42]) = true:=lit_yes h15
   have hl : Ie.lvS s = 10:=by
    unfold Ie.lvS
    rw [if_neg h0,if_neg h1,if_neg h2,if_neg h3,if_neg h4,if_neg h5,if_neg h6,if_neg h7,if_neg h8,if_neg h9,if_neg h10,if_neg h11,if_neg h12,if_neg h13,if_neg h14,if_pos h15]
   rw [hl]
   clear hl h15
   go_enter Tryz.func254,Tryz.ntmps254
   go_wp2_with fail
   go_ret
   exact ⟨rfl,HB.out _⟩
  have e15 : (s.toList == [42]) = false:=lit_no h15
  by_cases h16 : s = Ie.sQuo
  ·have e16 : (s.toList == [47]) = true:=lit_yes h16
   have hl : Ie.lvS s = 10:=by
    unfold Ie.lvS
    rw [if_neg h0,if_neg h1,if_neg h2,if_neg h3,if_neg h4,if_neg h5,if_neg h6,if_neg h7,if_neg h8,if_neg h9,if_neg h10,if_neg h11,if_neg h12,if_neg h13,if_neg h14,if_neg h15,if_pos h16]
   rw [hl]
   clear hl h16
   go_enter Tryz.func254,Tryz.ntmps254
   go_wp2_with fail
   go_ret
   exact ⟨rfl,HB.out _⟩
  have e16 : (s.toList == [47]) = false:=lit_no h16
  by_cases h17 : s = Ie.sRem
  ·have e17 : (s.toList == [37]) = true:=lit_yes h17
   have hl : Ie.lvS s = 10:=by
    unfold Ie.lvS
    rw [if_neg h0,if_neg h1,if_neg h2,if_neg h3,if_neg h4,if_neg h5,if_neg h6,if_neg h7,if_neg h8,if_neg h9,if_neg h10,if_neg h11,if_neg h12,if_neg h13,if_neg h14,if_neg h15,if_neg h16,if_pos h17]
   rw [hl]
   clear hl h17
   go_enter Tryz.func254,Tryz.ntmps254
   go_wp2_with fail
   go_ret
   exact ⟨rfl,HB.out _⟩
  have e17 : (s.toList == [37]) = false:=lit_no h17
  have hl : Ie.lvS s = 0:=by
   unfold Ie.lvS
   rw [if_neg h0,if_neg h1,if_neg h2,if_neg h3,if_neg h4,if_neg h5,if_neg h6,if_neg h7,if_neg h8,if_neg h9,if_neg h10,if_neg h11,if_neg h12,if_neg h13,if_neg h14,if_neg h15,if_neg h16,if_neg h17]
  rw [hl]
  clear hl
  go_enter Tryz.func254,Tryz.ntmps254
  go_wp2_with fail
  go_ret
  exact ⟨rfl,HB.out _⟩
 ·have hl : Ie.lvOf ⟨kd,s,f,fr,en,bl⟩ = 0:=if_neg hk
  rw [hl]
  clear hl
  go_enter Tryz.func254,Tryz.ntmps254
  go_wp2_with fail
  go_ret
  exact ⟨rfl,HB.out _⟩
def atom0 : Value:=.iface 424 (.int .i64 0)
theorem breaks_any (R B : Nat) (l : List K) (b : Bool) (e : Int) (w : World) (h : RS w R B l b e) :
  Calls Tryz.prog 255 #[.pointer (some ⟨R,0,none⟩)] w fun en w' => en = .returned atom0 ∧ Fb R w w' ∧ RS w' R B [] true e:=by
 obtain ⟨lv,h1,h2⟩:=h
 have f0 : w.frozen? ⟨R,0,none⟩ = false:=Lib.frozen_of_heap h1 0
 have f1 : w.frozen? ⟨R,1,none⟩ = false:=Lib.frozen_of_heap h1 1
 obtain ⟨c0,c1, -⟩:=box3v h1
 have H1:=Lib.hid h1
 clear h1 h2
 go_enter Tryz.func255,Tryz.ntmps255
 go_wp2_with fail
 go_ret
 exact ⟨rfl,((Fb.refl R w).set 1 _).set 0 _,_,rdr_set0 (rdr_set1 H1.out true) _,Lv.nil _ _ _ _ _ (Nat.zero_le _)⟩
theorem atom_any (R B : Nat) (l : List K) (b : Bool) (e n er : Int) (w : World) (h : RS w R B l b e) :
  Calls Tryz.prog 278 #[.pointer (some ⟨R,0,none⟩), .int .i64 n, .int .i64 er] w fun en w' => en = .returned (.iface 424 (.int .i64 n)) ∧ Fb R w w' ∧ RS w' R B l b (if er = 0 then e else er):=by
 obtain ⟨lv,h1,h2⟩:=h
 have f2 : w.frozen? ⟨R,2,none⟩ = false:=Lib.frozen_of_heap h1 2
 obtain ⟨-, -,c2⟩:=box3v h1
 have H1:=Lib.hid h1
 have H2:=Lib.hid h2
 clear h1 h2
 by_cases hz : er = 0
 ·go_enter Tryz.func278,Tryz.ntmps278
  go_wp2_with fail
  go_ret
  exact ⟨rfl,Fb.refl R w,_,H1.out,H2.out⟩
 ·go_enter Tryz.func278,Tryz.ntmps278
  go_wp2_with fail
  go_ret
  exact ⟨rfl,(Fb.refl R w).set 2 _,_,rdr_set2 H1.out er,H2.out.set _ _⟩
def Ie.bg (s : ByteArray) : List K → Bool
 | [] => false
 | t :: _ => isS t s
theorem takes_any (R B : Nat) (s : ByteArray) (l : List K) (b : Bool) (e : Int) (w : World) (h : RS w R B l b e) :
  Calls Tryz.prog 224 #[.pointer (some ⟨R,0,none⟩), .string s] w fun en w' => en = .returned (.bool (Ie.bg s l)) ∧ Fb R w w' ∧ RS w' R B (if Ie.bg s l then l.tail else l) b e:=by
 obtain ⟨lv,h1,h2⟩:=h
 cases l with
 | nil =>
  obtain ⟨ad,cap,rfl, -⟩:=id h2
  obtain ⟨c0, -, -⟩:=box3v h1
  simp only [List.length_nil] at c0
  have H1:=Lib.hid h1
  have H2:=Lib.hid h2
  clear h1 h2
  go_enter Tryz.func224,Tryz.ntmps224
  go_wp2_with fail
  go_ret
  exact ⟨rfl,Fb.refl R w,_,H1.out,H2.out⟩
 | cons t r =>
  obtain ⟨g,o,cap,rfl,hc1,hc2,⟨hg,hgB⟩,⟨d0,d1,d2,d3,d4,d5⟩,htl⟩:=h2.cons
  unfold maxLen at hc2
  obtain ⟨n,hn⟩ : ∃ n,n = r.length:=⟨_,rfl⟩
  rw [← hn] at h1 hc1 htl
  obtain ⟨c0, -, -⟩:=box3v h1
  have H1:=Lib.hid h1
  have H2:=Lib.hid h2
  have HT:=Lib.hid htl
  have Hn:=Lib.hid hn
  have K1:=Lib.hid (isign_any t s w)
  obtain ⟨kd,tx,f,fr,en,bl⟩:=t
  dsimp only [kAgg] at d0 d1 d2 d3 d4 d5 K1
  have e0 : Ie.bg s ((⟨kd,tx,f,fr,en,bl⟩ : K) :: r) = Ie.isS ⟨kd,tx,f,fr,en,bl⟩ s:=rfl
  rw [e0]
  obtain ⟨q,hq⟩ : ∃ q,q = Ie.isS ⟨kd,tx,f,fr,en,bl⟩ s:=⟨_,rfl⟩
  rw [← hq] at K1 ⊢
  clear h1 h2 htl hn e0 hq
  have z0 : (0 : Int) ≤ n:=by omega
  have z1 : (0 : Int) < (n : Int) + 1:=by omega
  go_enter Tryz.func224,Tryz.ntmps224
  go_wp2_with fail
  refine K1.out.mono ?_
  rintro e2 w2 ⟨rfl,hB2⟩
  have h12:=below_heap hB2 H1.out
  obtain ⟨c0', -, -⟩:=box3v h12
  have f0 : w2.frozen? ⟨R,0,none⟩ = false:=Lib.frozen_of_heap h12 0
  have H12:=Lib.hid h12
  have HB2:=Lib.hid hB2
  clear h12 hB2 c0 d0 d1 d2 d3 d4 d5 K1
  cases q with
  | false =>
   go_wp2_with fail
   go_ret
   refine ⟨rfl, .of HB2.out,_,?_,H2.out.keep (.of HB2.out)⟩
   rw [← Hn.out]
   exact H12.out
  | true =>
   rcases Decidable.em (cap = 1) with rfl | hcap
   ·obtain rfl : n = 0:=by omega
    go_wp2_with fail
    go_ret
    refine ⟨rfl,(Fb.of HB2.out).set 0 _,_,rdr_set0 H12.out _,?_⟩
    exact ((HT.out 0 (by omega)).keep (.of HB2.out)).set 0 _
   ·go_wp2_with fail
    go_ret
    refine ⟨rfl,(Fb.of HB2.out).set 0 _,_,rdr_set0 H12.out _,?_⟩
    exact ((HT.out 6 (fun _ => rfl)).keep (.of HB2.out)).set 0 _
theorem must_any (R B : Nat) (s : ByteArray) (l : List K) (b : Bool) (e : Int) (w : World) (h : RS w R B l b e) :
  Calls Tryz.prog 225 #[.pointer (some ⟨R,0,none⟩), .string s] w fun en w' => en = .returned (.tuple #[]) ∧ Fb R w w' ∧ RS w' R B (if Ie.bg s l then l.tail else []) (if Ie.bg s l then b else true) e:=by
 have K1:=Lib.hid (takes_any R B s l b e w h)
 obtain ⟨q,hq⟩ : ∃ q,q = Ie.bg s l:=⟨_,rfl⟩
 rw [← hq] at K1 ⊢
 clear h hq
 go_enter Tryz.func225,Tryz.ntmps225
 go_wp2_with fail
 refine K1.out.mono ?_
 rintro e2 w2 ⟨rfl,hF,hR⟩
 have HF:=Lib.hid hF
 have HR:=Lib.hid hR
 clear hF hR
 cases q with
 | true =>
  go_wp2_with fail
  go_end0
  exact ⟨rfl,HF.out,HR.out⟩
 | false =>
  go_wp2_with fail
  refine (breaks_any R B _ _ _ _ HR.out).mono ?_
  rintro e3 w3 ⟨rfl,hF3,hR3⟩
  go_wp2_with fail
  go_end0
  exact ⟨rfl,HF.out.trans hF3,hR3⟩
end
end Go.Proofs.YthekfpgegiffoaaGreatDoor
