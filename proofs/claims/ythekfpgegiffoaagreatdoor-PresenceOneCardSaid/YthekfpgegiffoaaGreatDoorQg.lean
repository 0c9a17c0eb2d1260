/- What is proved: hide sets: has, with, either, both. (and what stands with it) -/
import Derived.Test.YthekfpgegiffoaaGreatDoorQf
import Derived.IntWalk
import Derived.Deep.LoopGhost
set_option linter.unusedSimpArgs false
set_option linter.unusedVariables false
set_option maxHeartbeats 16000000
set_option maxRecDepth 100000
namespace Go.Proofs.YthekfpgegiffoaaGreatDoor
section
open Go.RowKit Go.Shelf
theorem u64_wrap (n : Nat) (h : n < 18446744073709551616) : IntKind.u64.wrap (n : Int) = n:=by
 show ((n : Int) % 18446744073709551616) = n
 omega
theorem u64_nat (a : Nat) (ha : a < 18446744073709551616) : (BitVec.ofInt 64 (a : Int)).toNat = a:=by
 rw [BitVec.ofInt_natCast,BitVec.toNat_ofNat]
 exact Nat.mod_eq_of_lt (by omega)
theorem or64_lt {a b : Nat} (ha : a < 18446744073709551616) (hb : b < 18446744073709551616) : a ||| b < 18446744073709551616:=Nat.or_lt_two_pow (n:=64) (by omega) (by omega)
theorem and64_lt {a b : Nat} (hb : b < 18446744073709551616) : a &&& b < 18446744073709551616:=Nat.and_lt_two_pow (n:=64) a (by omega)
theorem or64 (a b : Nat) (ha : a < 18446744073709551616) (hb : b < 18446744073709551616) : Go.bits .or .u64 (a : Int) (b : Int) = ((a ||| b : Nat) : Int):=by
 show IntKind.u64.wrap ((BitVec.ofInt 64 (a : Int) ||| BitVec.ofInt 64 (b : Int)).toNat : Int) = _
 rw [BitVec.toNat_or,u64_nat a ha,u64_nat b hb]
 exact u64_wrap _ (or64_lt ha hb)
theorem and64 (a b : Nat) (ha : a < 18446744073709551616) (hb : b < 18446744073709551616) : Go.bits .and .u64 (a : Int) (b : Int) = ((a &&& b : Nat) : Int):=by
 show IntKind.u64.wrap ((BitVec.ofInt 64 (a : Int) &&& BitVec.ofInt 64 (b : Int)).toNat : Int) = _
 rw [BitVec.toNat_and,u64_nat a ha,u64_nat b hb]
 exact u64_wrap _ (and64_lt hb)
theorem pow64 (i : Nat) (hi : i < 60) : (1 <<< i : Nat) < 18446744073709551616 ∧ IntKind.u64.wrap ((2 : Int) ^ i) = ((1 <<< i : Nat) : Int):=by
 have h1 : (1 <<< i : Nat) = 2 ^ i:=Nat.one_shiftLeft i
 have h2 : 2 ^ i < 2 ^ 60:=Nat.pow_lt_pow_right (by omega) hi
 rw [h1]
 refine ⟨by omega,?_⟩
 have:=u64_wrap (2 ^ i) (by omega)
 rwa [show ((2 ^ i : Nat) : Int) = (2 : Int) ^ i by push_cast; rfl] at this
theorem bit64 (h i : Nat) (hh : h < 18446744073709551616) : (Go.bits .and .u64 ((h : Int) / 2 ^ i) 1 == 1) = h.testBit i:=by
 have e0 : ((h : Int) / 2 ^ i) = ((h / 2 ^ i : Nat) : Int):=by simp
 have hlt : h / 2 ^ i < 18446744073709551616:=Nat.lt_of_le_of_lt (Nat.div_le_self _ _) hh
 have e1:=and64 (h / 2 ^ i) 1 hlt (by omega)
 rw [show ((1 : Nat) : Int) = 1 from rfl] at e1
 rw [e0,e1,Nat.and_one_is_mod,Nat.testBit_eq_decide_div_mod_eq]
 generalize h / 2 ^ i % 2 = q
 by_cases hq : q = 1
 ·subst hq; rfl
 ·rw [beq_eq_false_iff_ne.2 (by omega)]
  simp [hq]
theorem nm_cells {w : World} {b h : Nat} (hb : w.heap[b]? = some (.cells (nmCells h) 379 (0,0))) :
  w.cell? ⟨b,0,none⟩ = some (.int .u64 h) ∧ w.cell? ⟨b,1,none⟩ = some (.int .u64 0) ∧ w.cell? ⟨b,2,none⟩ = some (.int .u64 0) ∧ w.cell? ⟨b,3,none⟩ = some (.int .u64 0) ∧
  w.cell? ⟨b,4,none⟩ = some (.int .u64 0) ∧ w.cell? ⟨b,5,none⟩ = some (.int .u64 0) ∧ w.cell? ⟨b,6,none⟩ = some (.int .u64 0) ∧ w.cell? ⟨b,7,none⟩ = some (.int .u64 0) ∧
  w.cell? ⟨b,8,none⟩ = some (.int .u64 0) ∧ w.cell? ⟨b,9,none⟩ = some (.int .u64 0) ∧ w.cell? ⟨b,10,none⟩ = some (.int .u64 0) ∧ w.cell? ⟨b,11,none⟩ = some (.int .u64 0) ∧
  w.cell? ⟨b,12,none⟩ = some (.int .u64 0) ∧ w.cell? ⟨b,13,none⟩ = some (.int .u64 0) ∧ w.cell? ⟨b,14,none⟩ = some (.int .u64 0) ∧ w.cell? ⟨b,15,none⟩ = some (.int .u64 0) :=
 ⟨(Lib.cell_of_heap hb 0).trans rfl,(Lib.cell_of_heap hb 1).trans rfl,(Lib.cell_of_heap hb 2).trans rfl,(Lib.cell_of_heap hb 3).trans rfl,(Lib.cell_of_heap hb 4).trans rfl,(Lib.cell_of_heap hb 5).trans rfl,(Lib.cell_of_heap hb 6).trans rfl,(Lib.cell_of_heap hb 7).trans rfl,(Lib.cell_of_heap hb 8).trans rfl,(Lib.cell_of_heap hb 9).trans rfl,(Lib.cell_of_heap hb 10).trans rfl,(Lib.cell_of_heap hb 11).trans rfl,(Lib.cell_of_heap hb 12).trans rfl,(Lib.cell_of_heap hb 13).trans rfl,(Lib.cell_of_heap hb 14).trans rfl,(Lib.cell_of_heap hb 15).trans rfl⟩
theorem nm_at {w : World} {b h k : Nat} (hb : w.heap[b]? = some (.cells (nmCells h) 379 (0,0))) (hk : k < 16) : w.cell? ⟨b,k,none⟩ = some (.int .u64 ((if k = 0 then h else 0 : Nat) : Int)):=by
 rw [Lib.cell_of_heap hb k]
 rcases (by omega : k = 0 ∨ k = 1 ∨ k = 2 ∨ k = 3 ∨ k = 4 ∨ k = 5 ∨ k = 6 ∨ k = 7 ∨ k = 8 ∨ k = 9 ∨ k = 10 ∨ k = 11 ∨ k = 12 ∨ k = 13 ∨ k = 14 ∨ k = 15) with rfl | rfl | rfl | rfl | rfl | rfl | rfl | rfl | rfl | rfl | rfl | rfl | rfl | rfl | rfl | rfl <;> rfl
theorem nm_set {w : World} {b h k h' : Nat} (hb : w.heap[b]? = some (.cells (nmCells h) 379 (0,0))) (hk : k < 16) :
  (w.setCell ⟨b,k,none⟩ (.int .u64 ((if k = 0 then h' else 0 : Nat) : Int))).heap[b]? = some (.cells (nmCells (if k = 0 then h' else h)) 379 (0,0)):=by
 rw [heap_setCell_same w b k (nmCells h) 379 _ hb]
 rcases (by omega : k = 0 ∨ k = 1 ∨ k = 2 ∨ k = 3 ∨ k = 4 ∨ k = 5 ∨ k = 6 ∨ k = 7 ∨ k = 8 ∨ k = 9 ∨ k = 10 ∨ k = 11 ∨ k = 12 ∨ k = 13 ∨ k = 14 ∨ k = 15) with rfl | rfl | rfl | rfl | rfl | rfl | rfl | rfl | rfl | rfl | rfl | rfl | rfl | rfl | rfl | rfl <;> rfl
theorem ehas_any (p : Option Addr) (h i : Nat) (w : World) (hp : HidP w p h) (hi : i < 60) :
  Calls Tryz.prog 212 #[.pointer p, .int .i64 i] w fun e w' => e = .returned (.bool (h.testBit i)) ∧ w' = w:=by
 obtain ⟨hh,⟨rfl,rfl⟩ | ⟨b,rfl,hb⟩⟩:=hp
 ·go_enter Tryz.func212,Tryz.ntmps212
  go_wp2_with fail
  go_ret
  simp
 ·have c0 : w.cell? ⟨b,0,none⟩ = some (.int .u64 h):=(Lib.cell_of_heap hb 0).trans rfl
  have q1:=Lib.hid (bit64 h i hh)
  have q2 : (i : Int).tdiv 64 = 0:=by rw [Int.tdiv_eq_ediv_of_nonneg (by omega)]; omega
  have q3 : (i : Int).tmod 64 = i:=by rw [Int.tmod_eq_emod_of_nonneg (by omega)]; omega
  have q4 : (i : Int) / 64 = 0:=by omega
  have q5 : (i : Int) % 64 = i:=by omega
  clear hb
  go_enter Tryz.func212,Tryz.ntmps212
  go_wp2_with fail
  go_ret
  rw [← q1.out]
  exact ⟨rfl,rfl⟩
noncomputable def ewithBody : Code:=Tryz.f222.body.getD .skip
theorem ewith_end (W : World) (B h i : Nat) (c0 c2 c3 c4 c6 c7 c8 c9 c10 c11 c12 c13 c14 c15 c16 c17 c18 c19 c20 : Value) (hB : W.heap[B]? = some (.cells (nmCells h) 379 (0,0))) (hi : i < 60) (Post : Ending → World → Prop)
  (hpost : Post (.returned (.pointer (some ⟨B,0,none⟩))) (W.setCell ⟨B,0,none⟩ (.int .u64 (Go.bits .or .u64 h (IntKind.u64.wrap (2 ^ i))))).drew) :
  Code.wp Tryz.prog (secs 3 ewithBody) (bodyPost Tryz.prog Tryz.f222 Post) ⟨#[c0, .int .i64 i,c2,c3,c4, .pointer (some ⟨B,0,none⟩),c6,c7,c8,c9,c10,c11,c12,c13,c14,c15,c16,c17,c18,c19,c20],[]⟩ W:=by
 have c0 : W.cell? ⟨B,0,none⟩ = some (.int .u64 h):=(Lib.cell_of_heap hB 0).trans rfl
 have f0 : W.frozen? ⟨B,0,none⟩ = false:=by simp [World.frozen?,hB]
 have q1 : i / 64 = 0:=by omega
 have q2 : (i : Int) / 64 = 0:=by omega
 have q3 : (i : Int) % 64 = i:=by omega
 have q4 : (i : Int).tdiv 64 = 0:=by rw [Int.tdiv_eq_ediv_of_nonneg (by omega)]; omega
 have q5 : (i : Int).tmod 64 = i:=by rw [Int.tmod_eq_emod_of_nonneg (by omega)]; omega
 have HP:=Lib.hid hpost
 clear hB hpost
 refine wp_sec 3 ewithBody rfl ?_
 conv => arg 2; whnf
 go_wp2_with fail
 go_region
 go_wp2_with fail
 refine wp_sec 4 ewithBody rfl ?_
 conv => arg 2; whnf
 go_wp2_with fail
 conv => arg 2; whnf
 go_wp2_with fail
 exact HP.out
def WithPost (w : World) (h : Nat) (e : Ending) (w' : World) : Prop:=(∃ q,e = .returned (.pointer (some q)) ∧ HidP w' (some q) h) ∧ Below w.heap.size w w'
theorem ewith_post {w W : World} {B h i : Nat} (hB : W.heap[B]? = some (.cells (nmCells h) 379 (0,0))) (hi : i < 60) (hh : h < 18446744073709551616) (hw : Below w.heap.size w W) (hlt : w.heap.size ≤ B) :
  WithPost w (h ||| (1 <<< i)) (.returned (.pointer (some ⟨B,0,none⟩))) (W.setCell ⟨B,0,none⟩ (.int .u64 (Go.bits .or .u64 h (IntKind.u64.wrap (2 ^ i))))).drew:=by
 obtain ⟨p1,p2⟩:=pow64 i hi
 rw [p2,or64 _ _ hh p1]
 refine ⟨⟨_,rfl,or64_lt hh p1, .inr ⟨B,rfl,?_⟩⟩,(hw.setCell hlt _).drew⟩
 exact nm_set (k:=0) (h':=h ||| (1 <<< i)) hB (by omega)
theorem ewith_any (p : Option Addr) (h i : Nat) (w : World) (hp : HidP w p h) (hi : i < 60) :
  Calls Tryz.prog 222 #[.pointer p, .int .i64 i] w (WithPost w (h ||| (1 <<< i))):=by
 have HE:=fun (W : World) (hB : W.heap[w.heap.size]? = some (.cells (nmCells h) 379 (0,0))) (hw : Below w.heap.size w W) =>
  ewith_post hB hi hp.1 hw (Nat.le_refl _)
 obtain ⟨hh,⟨rfl,rfl⟩ | ⟨b,rfl,hb⟩⟩:=hp
 ·have hB0:=heap_alloc_new w (.cells (nmCells 0) 379)
  have hw0 : Below w.heap.size w (w.alloc (.cells (nmCells 0) 379)):=(Below.refl _ w).alloc (Nat.le_refl _) _
  have HE0:=Lib.hid (HE _ hB0 hw0)
  have HB0:=Lib.hid hB0
  clear HE hB0 hw0
  go_enter Tryz.func222,Tryz.ntmps222
  show Code.wp Tryz.prog (secs 0 ewithBody) _ _ _
  refine wp_sec 0 ewithBody rfl ?_
  conv => arg 2; whnf
  go_wp2_with fail
  refine wp_sec 1 ewithBody rfl ?_
  conv => arg 2; whnf
  go_wp2_with fail
  refine wp_sec 2 ewithBody rfl ?_
  conv => arg 2; whnf
  go_wp2_with fail
  exact ewith_end _ w.heap.size 0 i _ _ _ _ _ _ _ _ _ _ _ _ _ _ _ _ _ _ _ HB0.out hi _ HE0.out
 ·have hbW:=lt_of_heap hb
  have hB0:=heap_alloc_new w (.cells (nmCells h) 379)
  have hw0 : Below w.heap.size w (w.alloc (.cells (nmCells h) 379)):=(Below.refl _ w).alloc (Nat.le_refl _) _
  have HE0:=Lib.hid (HE _ hB0 hw0)
  have HB0:=Lib.hid hB0
  obtain ⟨c0,c1,c2,c3,c4,c5,c6,c7,c8,c9,c10,c11,c12,c13,c14,c15⟩:=nm_cells hb
  clear HE hB0 hw0 hb
  go_enter Tryz.func222,Tryz.ntmps222
  show Code.wp Tryz.prog (secs 0 ewithBody) _ _ _
  refine wp_sec 0 ewithBody rfl ?_
  conv => arg 2; whnf
  go_wp2_with fail
  refine wp_sec 1 ewithBody rfl ?_
  conv => arg 2; whnf
  go_wp2_with fail
  refine wp_sec 2 ewithBody rfl ?_
  conv => arg 2; whnf
  go_wp2_with fail
  exact ewith_end _ w.heap.size h i _ _ _ _ _ _ _ _ _ _ _ _ _ _ _ _ _ _ _ HB0.out hi _ HE0.out
end
end Go.Proofs.YthekfpgegiffoaaGreatDoor
