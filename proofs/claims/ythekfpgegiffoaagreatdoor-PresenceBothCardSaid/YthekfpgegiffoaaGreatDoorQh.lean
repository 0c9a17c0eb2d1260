/- What is proved: hide sets: either, both. (and what stands with it) -/
import Derived.Test.YthekfpgegiffoaaGreatDoorQg
set_option linter.unusedSimpArgs false
set_option linter.unusedVariables false
set_option maxHeartbeats 16000000
set_option maxRecDepth 100000
namespace Go.Proofs.YthekfpgegiffoaaGreatDoor
section
open Go.RowKit Go.Shelf
theorem eor_some (g : Nat) (a : Addr) (v : Value) (w : World) (h0 : w.cell? ⟨g,0,none⟩ = some (.pointer (some a))) (h1 : w.cell? ⟨g,1,none⟩ = some v) :
  Calls Tryz.prog 277 #[.slice (some ⟨g,0,none⟩) 2 2] w fun e w' => e = .returned (.pointer (some a)) ∧ w' = w:=by
 go_enter Tryz.func277,Tryz.ntmps277
 go_wp2_with fail
 go_loopw [8] (fun i wr => i = .int .i64 0 ∧ wr = w) (fun _ _ => 0)
 case atStart => exact ⟨rfl,rfl⟩
 case round =>
  obtain ⟨rfl,rfl⟩:=hrel
  go_wp2_with fail
  go_ret
  exact ⟨rfl,rfl⟩
theorem eor_none (g : Nat) (p : Option Addr) (w : World) (h0 : w.cell? ⟨g,0,none⟩ = some (.pointer none)) (h1 : w.cell? ⟨g,1,none⟩ = some (.pointer p)) :
  Calls Tryz.prog 277 #[.slice (some ⟨g,0,none⟩) 2 2] w fun e w' => e = .returned (.pointer p) ∧ w' = w:=by
 go_enter Tryz.func277,Tryz.ntmps277
 go_wp2_with fail
 go_loopw [8] (fun i wr => (i = .int .i64 0 ∨ i = .int .i64 1 ∨ (i = .int .i64 2 ∧ p = none)) ∧ wr = w) (fun i _ => 2 - (intOf i).toNat)
 case atStart => exact ⟨.inl rfl,rfl⟩
 case round =>
  obtain ⟨rfl | rfl | ⟨rfl,rfl⟩,rfl⟩:=hrel
  ·go_wp2_with fail
   go_roundw
   case rel => simp
   case measure => simp [intOf]
  ·cases p with
   | none =>
    go_wp2_with fail
    go_roundw
    case rel => simp
    case measure => simp [intOf]
   | some a =>
    go_wp2_with fail
    go_ret
    exact ⟨rfl,rfl⟩
  ·go_wp2_with fail
   go_ret
   exact ⟨rfl,rfl⟩
noncomputable def eeitherBody : Code:=Tryz.f252.body.getD .skip
theorem or_step {w : World} {B h h' k : Nat} (hB : w.heap[B]? = some (.cells (nmCells (if k = 0 then h else h ||| h')) 379 (0,0))) (hk : k < 16) (hh : h < 18446744073709551616) (hh' : h' < 18446744073709551616) :
  (w.setCell ⟨B,k,none⟩ (.int .u64 (Go.bits .or .u64 ((if k = 0 then h else 0 : Nat) : Int) ((if k = 0 then h' else 0 : Nat) : Int)))).heap[B]? = some (.cells (nmCells (h ||| h')) 379 (0,0)):=by
 have e : Go.bits .or .u64 ((if k = 0 then h else 0 : Nat) : Int) ((if k = 0 then h' else 0 : Nat) : Int) = ((if k = 0 then h ||| h' else 0 : Nat) : Int):=by
  by_cases hz : k = 0
  ·rw [if_pos hz,if_pos hz,if_pos hz]; exact or64 _ _ hh hh'
  ·rw [if_neg hz,if_neg hz,if_neg hz]; rfl
 rw [e,nm_set hB hk]
 by_cases hz : k = 0
 ·rw [if_pos hz]
 ·rw [if_neg hz,if_neg hz]
theorem eeither_end (W : World) (B b h h' n : Nat) (c0 c2 c3 c4 c6 c7 c8 c9 c10 c11 c12 c13 c14 c15 c16 c17 c18 c19 c20 c21 c22 c23 c24 c25 c26 c27 c28 c29 c30 c31 c32 c33 : Value) (hB : W.heap[B]? = some (.cells (nmCells h) 379 (0,0))) (hb : W.heap[b]? = some (.cells (nmCells h') 379 (0,0)))
  (hn : b < n) (hBn : n ≤ B) (hh : h < 18446744073709551616) (hh' : h' < 18446744073709551616) (Post : Ending → World → Prop)
  (hpost : ∀ w',w'.heap[B]? = some (.cells (nmCells (h ||| h')) 379 (0,0)) → Below n W w' → Post (.returned (.pointer (some ⟨B,0,none⟩))) w') :
  Code.wp Tryz.prog (secs 3 eeitherBody) (bodyPost Tryz.prog Tryz.f252 Post) ⟨#[c0, .pointer (some ⟨b,0,none⟩),c2,c3,c4, .pointer (some ⟨B,0,none⟩),c6,c7,c8,c9,c10,c11,c12,c13,c14,c15,c16,c17,c18,c19,c20,c21,c22,c23,c24,c25,c26,c27,c28,c29,c30,c31,c32,c33],[]⟩ W:=by
 have HP:=Lib.hid hpost
 have HB:=Lib.hid hB
 have Hb:=Lib.hid hb
 have Hh:=Lib.hid hh
 have Hh':=Lib.hid hh'
 clear hpost hB hb hh hh'
 refine wp_sec 3 eeitherBody rfl ?_
 conv => arg 2; whnf
 go_wp2_with fail
 go_loopw [20] (fun i wr => ∃ k : Nat,i = .int .i64 k ∧ k ≤ 16 ∧ wr.heap[B]? = some (.cells (nmCells (if k = 0 then h else h ||| h')) 379 (0,0)) ∧ Below n W wr) (fun i _ => 16 - (intOf i).toNat)
 case atStart => exact ⟨0,rfl,by omega,HB.out,Below.refl _ _⟩
 case round =>
  obtain ⟨k,rfl,hk,hBr,hw⟩:=hrel
  by_cases hlt : k < 16
  ·have hbr:=(hw.block b hn).trans Hb.out
   have c1:=nm_at hBr hlt
   have c2:=nm_at hbr hlt
   have f1 : wr.frozen? ⟨B,k,none⟩ = false:=by simp [World.frozen?,hBr]
   have e1 : (if k = 0 then (if k = 0 then h else h ||| h') else 0 : Nat) = (if k = 0 then h else 0 : Nat):=by by_cases hz : k = 0 <;> simp [hz]
   rw [e1] at c1
   have hst:=Lib.hid (or_step hBr hlt Hh.out Hh'.out)
   obtain ⟨x,hx⟩ : ∃ x : Nat,x = (if k = 0 then h else 0):=⟨_,rfl⟩
   obtain ⟨y,hy⟩ : ∃ y : Nat,y = (if k = 0 then h' else 0):=⟨_,rfl⟩
   rw [← hx] at c1 hst
   rw [← hy] at c2 hst
   have z1 : (0 : Int) ≤ k:=by omega
   have z2 : (k : Int) < 16:=by omega
   have HW:=Lib.hid hw
   clear hx hy hBr hbr e1 hw
   go_wp2_with fail
   go_region
   go_wp2_with fail
   go_roundw
   case rel =>
    refine ⟨k + 1,by go_num,by omega,?_,?_⟩
    ·rw [if_neg (by omega)]
     exact hst.out
    ·exact (HW.out.setCell hBn _).drew
   case measure => simp [intOf]; omega
  ·obtain rfl : k = 16:=by omega
   have HBr:=Lib.hid hBr
   have HW:=Lib.hid hw
   clear hBr hw
   go_wp2_with fail
   refine wp_sec 4 eeitherBody rfl ?_
   conv => arg 2; whnf
   go_wp2_with fail
   conv => arg 2; whnf
   go_wp2_with fail
   exact HP.out _ HBr.out HW.out
theorem hid_or0 (h : Nat) : 0 ||| h = h:=Nat.zero_or h
theorem nm_new (w : World) (h : Nat) : (w.alloc (.cells (nmCells h) 379)).heap[w.heap.size]? = some (.cells (nmCells h) 379 (0,0)):=heap_alloc_new w _
def NmPost (w : World) (h : Nat) (y : Bool) (e : Ending) (w' : World) : Prop:=∃ r,e = .returned (.pointer r) ∧ HidP w' r h ∧ (y = true → r ≠ none) ∧ Below w.heap.size w w'
theorem eeither_any (p q : Option Addr) (h h' : Nat) (w : World) (hp : HidP w p h) (hq : HidP w q h') :
  Calls Tryz.prog 252 #[.pointer p, .pointer q] w (NmPost w (h ||| h') q.isSome):=by
 obtain ⟨hh,⟨rfl,rfl⟩ | ⟨b,rfl,hb⟩⟩:=hp
 ·have hB0 : Below w.heap.size w (w.alloc (.cells #[.pointer none, .pointer q] 312)):=(Below.refl _ w).alloc (Nat.le_refl _) _
  have hq':=hq.keep (Kept.of_below hB0 _)
  have c0 : (w.alloc (.cells #[.pointer none, .pointer q] 312)).cell? ⟨w.heap.size,0,none⟩ = some (.pointer none):=by simp
  have c1 : (w.alloc (.cells #[.pointer none, .pointer q] 312)).cell? ⟨w.heap.size,1,none⟩ = some (.pointer q):=by simp
  have K:=Lib.hid (eor_none _ _ _ c0 c1)
  have HQ:=Lib.hid hq'
  clear hq hq' c0 c1
  go_enter Tryz.func252,Tryz.ntmps252
  go_wp2_with fail
  refine (K.out).mono ?_
  rintro e w1 ⟨rfl,rfl⟩
  go_wp2_with fail
  go_ret
  refine ⟨q,rfl,?_,?_,hB0⟩
  ·rw [hid_or0]; exact HQ.out
  ·intro hy; rintro rfl; cases hy
 ·obtain ⟨hh',⟨rfl,rfl⟩ | ⟨b',rfl,hb'⟩⟩:=hq
  ·have hB0 : Below w.heap.size w (w.alloc (.cells #[.pointer (some ⟨b,0,none⟩), .pointer none] 312)):=(Below.refl _ w).alloc (Nat.le_refl _) _
   have hp':=HidP.keep (p:=some ⟨b,0,none⟩) ⟨hh, .inr ⟨b,rfl,hb⟩⟩ (Kept.of_below hB0 _)
   have c0 : (w.alloc (.cells #[.pointer (some ⟨b,0,none⟩), .pointer none] 312)).cell? ⟨w.heap.size,0,none⟩ = some (.pointer (some ⟨b,0,none⟩)):=by simp
   have c1 : (w.alloc (.cells #[.pointer (some ⟨b,0,none⟩), .pointer none] 312)).cell? ⟨w.heap.size,1,none⟩ = some (.pointer none):=by simp
   have K:=Lib.hid (eor_some _ _ _ _ c0 c1)
   have HQ:=Lib.hid hp'
   clear hb hp' c0 c1
   go_enter Tryz.func252,Tryz.ntmps252
   go_wp2_with fail
   refine (K.out).mono ?_
   rintro e w1 ⟨rfl,rfl⟩
   go_wp2_with fail
   go_ret
   refine ⟨_,rfl,?_,?_,hB0⟩
   ·rw [Nat.or_zero]; exact HQ.out
   ·intro hy; cases hy
  ·have hbW:=lt_of_heap hb
   have hB0 : Below w.heap.size w (w.alloc (.cells (nmCells h) 379)):=(Below.refl _ w).alloc (Nat.le_refl _) _
   have K:=Lib.hid (fun c0 c2 c3 c4 c6 c7 c8 c9 c10 c11 c12 c13 c14 c15 c16 c17 c18 c19 c20 c21 c22 c23 c24 c25 c26 c27 c28 c29 c30 c31 c32 c33 =>
    eeither_end (w.alloc (.cells (nmCells h) 379)) w.heap.size b' h h' w.heap.size c0 c2 c3 c4 c6 c7 c8 c9 c10 c11 c12 c13 c14 c15 c16 c17 c18 c19 c20 c21 c22 c23 c24 c25 c26 c27 c28 c29 c30 c31 c32 c33
    (nm_new w h) ((hB0.block b' (lt_of_heap hb')).trans hb') (lt_of_heap hb') (Nat.le_refl _) hh hh' (NmPost w (h ||| h') true)
    (fun w' h1 h2 => ⟨_,rfl,⟨or64_lt hh hh', .inr ⟨_,rfl,h1⟩⟩,fun _ => by simp,hB0.trans h2⟩))
   obtain ⟨c0,c1,c2,c3,c4,c5,c6,c7,c8,c9,c10,c11,c12,c13,c14,c15⟩:=nm_cells hb
   clear hb hb' hB0
   go_enter Tryz.func252,Tryz.ntmps252
   show Code.wp Tryz.prog (secs 0 eeitherBody) _ _ _
   refine wp_sec 0 eeitherBody rfl ?_
   conv => arg 2; whnf
   go_wp2_with fail
   refine wp_sec 1 eeitherBody rfl ?_
   conv => arg 2; whnf
   go_wp2_with fail
   refine wp_sec 2 eeitherBody rfl ?_
   conv => arg 2; whnf
   go_wp2_with fail
   exact K.out _ _ _ _ _ _ _ _ _ _ _ _ _ _ _ _ _ _ _ _ _ _ _ _ _ _ _ _ _ _ _ _
end
end Go.Proofs.YthekfpgegiffoaaGreatDoor
