/- What is proved: how many sets a condition has, its least set, and on which names it hangs, in plain words. (and what stands with it) -/
import Derived.Test.YthekfpgegiffoaaGreatDoorQt
import Derived.IntWalk
import Derived.Shelf.Small.Bits
import Derived.Test.YthekfpgegiffoaaGreatDoorProg
import Derived.BigQuiet
import Derived.Deep.QuietTactic
import Derived.StillTailTactics
import Derived.Test.YthekfpgegiffoaaGreatDoorQb
import Derived.Test.YthekfpgegiffoaaGreatDoorQk
import Derived.Test.YthekfpgegiffoaaGreatDoorQl
import Derived.WalkKit
import Derived.WalkSpells
import Derived.WalkLawsBesides
import Derived.Lib.Hide
import Derived.Deep.Draws
import Derived.Deep.AppendLies
import Derived.RegionTactic
import Derived.Deep.RegionHeld3
import Derived.Maps.AppendAt
import Derived.Laws.OwnMore
import Derived.OneCell
import Derived.WalkSmall
set_option linter.unusedSimpArgs false
set_option linter.unusedVariables false
set_option maxHeartbeats 16000000
set_option maxRecDepth 100000
namespace Go.Proofs.YthekfpgegiffoaaGreatDoor
namespace Bd
variable {vars : Nat} {ds : List Dec}
def bits (s : Nat) : Nat → Bool:=fun i => s.testBit i
end Bd
namespace Bdd
open Go.RowKit Bd
section
variable {w : World} {B p m vars : Nat} {sv : Value} {ds : List Dec}
theorem wrapped (n : Nat) (h : n ≤ 65536) : IntKind.i64.wrap (n : Int) = (n : Int):=IntWalk.i64_in _ (by omega)
end
section
variable {w : World} {B p m vars : Nat} {sv : Value} {ds : List Dec}
def Box (W : World) (b : Nat) (d : Dec) : Prop:=W.heap[b]? = some (.cells #[.int .i64 (d.1 : Int), .int .i64 (d.2.1 : Int), .int .i64 (d.2.2 : Int)] 92)
section
variable {W W' : World} {b : Nat} {d : Dec}
theorem Box.c0 (h : Box W b d) : W.cell? ⟨b,0,none⟩ = some (.int .i64 (d.1 : Int)):=cell_of_row _ _ _ _ _ _ h
theorem Box.c1 (h : Box W b d) : W.cell? ⟨b,1,none⟩ = some (.int .i64 (d.2.1 : Int)):=cell_of_row _ _ _ _ _ _ h
theorem Box.c2 (h : Box W b d) : W.cell? ⟨b,2,none⟩ = some (.int .i64 (d.2.2 : Int)):=cell_of_row _ _ _ _ _ _ h
theorem Box.drew (h : Box W b d) : Box W.drew b d:=h
theorem Box.below (h : Box W b d) (hb : Below W.heap.size W W') : Box W' b d:=(hb.block b (lt_of_get h)).trans h
end
def sel (t : Bool) (b c : Int) : Int:=if t then c else b
theorem side_sel (a b c : Int) (t : Bool) (w : World) : Calls Tryz.prog 41 #[.agg #[.int .i64 a, .int .i64 b, .int .i64 c], .bool t] w fun e w' => e = .returned (.int .i64 (sel t b c)) ∧ Below w.heap.size w w':=side_any a b c t w
theorem sel_bit {s k : Nat} (hs : s < 256) (b c : Nat) : sel (Go.bits .and .i64 ((s : Int) / 2 ^ k) 1 == 1) (b : Int) (c : Int) = ((if Bd.bits s k then c else b : Nat) : Int):=by
 have e0 : ((s : Int) / 2 ^ k) = ((s / 2 ^ k : Nat) : Int):=by simp
 have hlt : s / 2 ^ k < 256:=Nat.lt_of_le_of_lt (Nat.div_le_self _ _) hs
 have e1 : Go.bits .and .i64 ((s / 2 ^ k : Nat) : Int) ((1 : Nat) : Int) = ((s / 2 ^ k % 2 : Nat) : Int):=by
  have ea : (BitVec.ofInt 64 ((s / 2 ^ k : Nat) : Int)).toNat = s / 2 ^ k:=by rw [BitVec.ofInt_natCast,BitVec.toNat_ofNat]; exact Nat.mod_eq_of_lt (by omega)
  have eb : (BitVec.ofInt 64 ((1 : Nat) : Int)).toNat = 1:=rfl
  show IntKind.i64.wrap ((BitVec.ofInt 64 ((s / 2 ^ k : Nat) : Int) &&& BitVec.ofInt 64 ((1 : Nat) : Int)).toNat : Int) = _
  rw [BitVec.toNat_and,ea,eb,Nat.and_one_is_mod]
  exact wrapped _ (by omega)
 have e2 : ((1 : Nat) : Int) = 1:=rfl
 rw [e2] at e1
 rw [e0,e1]
 have e3 : Bd.bits s k = decide (s / 2 ^ k % 2 = 1):=Nat.testBit_eq_decide_div_mod_eq
 rw [e3]
 generalize s / 2 ^ k % 2 = q
 unfold sel
 by_cases hq : q = 1
 ·subst hq; rfl
 ·have : ((q : Int) == 1) = false:=beq_eq_false_iff_ne.2 (by omega)
  rw [this]
  simp [hq]
def SameHold (ds : List Dec) (s x y : Nat) : Prop:=S ds y (Bd.bits s) = S ds x (Bd.bits s)
theorem Holds_any (h : Ar w B p m sv vars ds) (x s : Nat) (hx : x < ds.length + 2) (hs : s < 2 ^ vars) :
  Calls Tryz.prog 18 #[.pointer (some ⟨p,0,none⟩), .int .i64 (x : Int), .int .i64 (s : Int)] w fun e w' => e = .returned (.tuple #[.bool (S ds x (Bd.bits s)), .int .i64 0]) ∧ Below w.heap.size w w':=by
 have hA:=h.alloc (.cells #[.int .i64 (x : Int)] 39)
 have HK:=Lib.hid (knows_yes hA w.heap.size 1 1 _ (by omega) (Nodes.new1 w (x : Int)) (fun i _ => by omega))
 have HV:=Lib.hid (vars_any hA)
 have v8:=h.v8
 have hp8:=pow8 h.v8
 have k4 : (vars : Int) ≤ 64:=by omega
 have k5 : decide ((2 : Int) ^ vars ≤ (s : Int)) = false:=by
  have : ((2 ^ vars : Nat) : Int) = 2 ^ vars:=by simp
  simp; omega
 have k6 : IntKind.i64.wrap ((2 : Int) ^ vars) = 2 ^ vars:=by
  have : ((2 ^ vars : Nat) : Int) = 2 ^ vars:=by simp
  rw [← this]
  exact wrapped _ (by omega)
 have hs0 : decide ((s : Int) < 0) = false:=by simp
 go_enter Tryz.func18,Tryz.ntmps18
 go_wp2_with fail
 refine (HK.out).mono ?_
 rintro e w1 ⟨rfl,rfl⟩
 go_wp2_with fail
 refine (HV.out).mono ?_
 rintro e w1 ⟨rfl,rfl⟩
 go_wp2_with fail
 have hbA : Below w.heap.size w (w.alloc (.cells #[.int .i64 (x : Int)] 39)):=(Below.refl _ _).alloc (Nat.le_refl _) _
 generalize w.alloc (.cells #[.int .i64 (x : Int)] 39) = WA at hA hbA HK HV ⊢
 go_loopw [1,8] (fun t _ wr => ∃ y : Nat,SameHold ds s x y ∧ y < ds.length + 2 ∧ t = .int .i64 (y : Int) ∧ Below WA.heap.size WA wr) (fun t _ _ => (intOf t).toNat)
 case atStart => exact ⟨x,rfl,hx,rfl,Below.refl _ _⟩
 case round =>
  obtain ⟨y,hsame,hy,rfl,hb⟩:=hrel
  have hAr:=hA.below hb
  by_cases h2 : 2 ≤ y
  ·have h2' : (2 : Int) ≤ (y : Int):=by omega
   have l1:=h.wf.lo y h2 hy
   have l2:=h.wf.hi y h2 hy
   have l5:=h.wf.name y h2 hy
   go_wp2_with fail
   refine (decision_any hAr y h2 hy).mono ?_
   rintro e w2 ⟨rfl,hb2⟩
   unfold keyOf
   go_wp2_with fail
   have hbW:=hb2.alloc hb2.size (.cells #[.int .i64 ((dec ds y).1 : Int), .int .i64 ((dec ds y).2.1 : Int), .int .i64 ((dec ds y).2.2 : Int)] 92)
   have hBx : Box (w2.alloc (.cells #[.int .i64 ((dec ds y).1 : Int), .int .i64 ((dec ds y).2.1 : Int), .int .i64 ((dec ds y).2.2 : Int)] 92)) w2.heap.size (dec ds y):=heap_alloc_new _ _
   generalize w2.heap.size = bx at hBx ⊢
   generalize (w2.alloc (.cells #[.int .i64 ((dec ds y).1 : Int), .int .i64 ((dec ds y).2.1 : Int), .int .i64 ((dec ds y).2.2 : Int)] 92)) = W at hbW hBx ⊢
   have b0:=hBx.c0
   have b1:=hBx.c1
   have b2:=hBx.c2
   have k7 : ((dec ds y).1 : Int) ≤ 64:=by omega
   go_region_held3 (fun w' => w'.cell? ⟨bx,0,none⟩ = some (.int .i64 ((dec ds y).1 : Int)) ∧ w'.cell? ⟨bx,1,none⟩ = some (.int .i64 ((dec ds y).2.1 : Int)) ∧ w'.cell? ⟨bx,2,none⟩ = some (.int .i64 ((dec ds y).2.2 : Int))) (first | exact ⟨b0,b1,b2⟩ | exact ⟨hB4.c0,hB4.c1,hB4.c2⟩)
    (first
     | (go_at_call 41; (with_reducible refine (side_sel _ _ _ _ _).mono ?_); rintro e w4 ⟨rfl,hb4⟩; have hB4:=hBx.drew.below hb4))
   go_wp2_with fail
   rw [sel_bit (show s < 256 by omega)]
   refine ⟨⟨_,?_,?_,rfl,(hb.trans (hbW.drew.mono hb.size)).trans (hb4.mono (Nat.le_trans hb.size hbW.size))⟩,?_⟩
   ·exact (S_ge2 h.wf h2 hy _).symm.trans hsame
   ·split <;> omega
   ·simp only [intOf,Int.toNat_natCast]
    split <;> omega
  ·have h2' : (y : Int) < 2:=by omega
   go_wp2_with fail
   go_ret2
   refine ⟨?_,hbA.trans (hb.mono hbA.size)⟩
   have e : S ds x (Bd.bits s) = ((y : Int) == 1):=by
    rw [← hsame,S_lt2 (by omega),Bool.eq_iff_iff]
    simp
    omega
   rw [e]
   rfl
end
end Bdd
namespace Bdd
open Go.RowKit Bd
structure Has (ds : List Dec) (x : Nat) (g : (Nat → Bool) → Bool) : Prop where
 lt : x < ds.length + 2
 says : ∀ a,S ds x a = g a
def Keep (ds ds' : List Dec) : Prop:=∀ z f,Has ds z f → Has ds' z f
theorem Keep.refl (ds : List Dec) : Keep ds ds:=fun _ _ h => h
theorem Keep.trans {a b c : List Dec} (h : Keep a b) (k : Keep b c) : Keep a c:=fun z f hz => k z f (h z f hz)
theorem Has.never (ds : List Dec) : Has ds 0 fun _ => false:=⟨by omega,fun _ => S_lt2 (by omega) _⟩
theorem Has.always (ds : List Dec) : Has ds 1 fun _ => true:=⟨by omega,fun _ => S_lt2 (by omega) _⟩
def TellsH (w : World) (B p m : Nat) (sv : Value) (vars : Nat) (ds : List Dec) (g : (Nat → Bool) → Bool) (e : Ending) (w' : World) : Prop :=
 ∃ r ds' sv',Has ds' r g ∧ Keep ds ds' ∧ ds'.length ≤ ds.length + 255 ∧ e = .returned (.tuple #[.int .i64 ((r : Nat) : Int), .int .i64 0]) ∧ Ar w' B p m sv' vars ds' ∧ Fr p m sv w sv' w'
section
variable {w : World} {B p m vars : Nat} {sv : Value} {ds : List Dec}
theorem made_keep {ds' : List Dec} {r t : Nat} {g : (Nat → Bool) → Bool} (wf : WF vars ds) (M : Made vars ds ds' r g t) : Keep ds ds':=by
 intro z f hz
 obtain ⟨h1,_,h3⟩:=M.old wf hz.lt
 exact ⟨h1,fun a => (h3 a).trans (hz.says a)⟩
theorem TellsH.of {g g' : (Nat → Bool) → Bool} {e : Ending} {w' : World} (h : Ar w B p m sv vars ds) (hg : ∀ a,g a = g' a) (T : Tells w B p m sv vars ds g e w') : TellsH w B p m sv vars ds g' e w':=by
 obtain ⟨r,ds',sv',M,he,hA,F⟩:=T
 have:=M.few
 have:=pow8 h.v8
 exact ⟨r,ds',sv',⟨M.lt,fun a => (M.says a).trans (hg a)⟩,made_keep h.wf M,by omega,he,hA,F⟩
theorem varH (h : Ar w B p m sv vars ds) (i : Nat) (hi : i < vars) (hfew : ds.length + 256 ≤ 100000000) :
  Calls Tryz.prog 65 #[.pointer (some ⟨p,0,none⟩), .int .i64 (i : Int)] w (TellsH w B p m sv vars ds (fun a => a i)) :=
 (var_any h i hi hfew).mono fun _ _ T => TellsH.of h (fun _ => rfl) T
theorem notH (h : Ar w B p m sv vars ds) {x : Nat} {g : (Nat → Bool) → Bool} (hx : Has ds x g) (hfew : ds.length + 256 ≤ 100000000) :
  Calls Tryz.prog 66 #[.pointer (some ⟨p,0,none⟩), .int .i64 (x : Int)] w (TellsH w B p m sv vars ds (fun a => !g a)) :=
 (not_any h x hx.lt hfew).mono fun _ _ T => TellsH.of h (fun a => by rw [hx.says]) T
theorem andH (h : Ar w B p m sv vars ds) {x y : Nat} {g g' : (Nat → Bool) → Bool} (hx : Has ds x g) (hy : Has ds y g') (hfew : ds.length + 256 ≤ 100000000) :
  Calls Tryz.prog 67 #[.pointer (some ⟨p,0,none⟩), .int .i64 (x : Int), .int .i64 (y : Int)] w (TellsH w B p m sv vars ds (fun a => g a && g' a)) :=
 (and_any h x y hx.lt hy.lt hfew).mono fun _ _ T => TellsH.of h (fun a => by rw [hx.says,hy.says]) T
theorem iteH (h : Ar w B p m sv vars ds) {c x y : Nat} {f g g' : (Nat → Bool) → Bool} (hc : Has ds c f) (hx : Has ds x g) (hy : Has ds y g') (hfew : ds.length + 256 ≤ 100000000) :
  Calls Tryz.prog 93 #[.pointer (some ⟨p,0,none⟩), .int .i64 (c : Int), .int .i64 (x : Int), .int .i64 (y : Int)] w (TellsH w B p m sv vars ds (fun a => if f a then g a else g' a)) :=
 (ite_any h c x y hc.lt hx.lt hy.lt hfew).mono fun _ _ T => TellsH.of h (fun a => by rw [hc.says,hx.says,hy.says]) T
theorem holdsH (h : Ar w B p m sv vars ds) {x : Nat} {g : (Nat → Bool) → Bool} (hx : Has ds x g) (s : Nat) (hs : s < 2 ^ vars) :
  Calls Tryz.prog 18 #[.pointer (some ⟨p,0,none⟩), .int .i64 (x : Int), .int .i64 (s : Int)] w fun e w' => e = .returned (.tuple #[.bool (g (Bd.bits s)), .int .i64 0]) ∧ Below w.heap.size w w':=by
 have:=Holds_any h x s hx.lt hs
 rw [hx.says] at this
 exact this
theorem below_of_fr {w0 w1 w' : World} {p m : Nat} {sv sv' : Value} {b : Nat} (hb : Below b w0 w1) (hbs : b ≤ w0.heap.size) (F : Fr p m sv w1 sv' w') (hp : b ≤ p) (hm : b ≤ m) (hs : ∀ k,sv.ownBlock = some k → b ≤ k) : Below b w0 w' :=
 ⟨F.os.trans hb.os,F.tape.trans hb.tape,F.output.trans hb.output,Nat.le_trans hb.size F.size,fun k hk => (F.blk k (Nat.lt_of_lt_of_le hk (Nat.le_trans hbs hb.size)) (by omega) (by omega) (fun e => by have:=hs k e; omega)).trans (hb.block k hk)⟩
end
end Bdd
namespace Bdd
open Go.RowKit Bd
theorem exists_bits (v : Nat) (a : Nat → Bool) : ∃ s,s < 2 ^ v ∧ ∀ i,i < v → Bd.bits s i = a i:=by
 induction v with
 | zero => exact ⟨0,by simp,fun i h => by omega⟩
 | succ v ih =>
  obtain ⟨s,hs,h⟩:=ih
  cases hv : a v with
  | false =>
   refine ⟨s,by rw [Nat.pow_succ]; omega,fun i hi => ?_⟩
   by_cases e : i = v
   ·subst e; rw [hv]; exact Nat.testBit_lt_two_pow hs
   ·exact h i (by omega)
  | true =>
   refine ⟨2 ^ v + s,by rw [Nat.pow_succ]; omega,fun i hi => ?_⟩
   by_cases e : i = v
   ·subst e
    rw [hv]
    show (2 ^ i + s).testBit i = true
    rw [Nat.testBit_two_pow_add_eq,Nat.testBit_lt_two_pow hs]
    rfl
   ·show (2 ^ v + s).testBit i = a i
    rw [Nat.testBit_two_pow_add_gt (by omega)]
    exact h i (by omega)
structure Nd (v : Nat) (ds : List Dec) (x : Nat) (P : Nat → Bool) : Prop where
 lt : x < ds.length + 2
 says : ∀ s,s < 2 ^ v → S ds x (Bd.bits s) = P s
theorem Has.nd {v : Nat} {ds : List Dec} {x : Nat} {g : (Nat → Bool) → Bool} {P : Nat → Bool} (h : Has ds x g) (e : ∀ s,s < 2 ^ v → g (Bd.bits s) = P s) : Nd v ds x P:=⟨h.lt,fun s hs => (h.says _).trans (e s hs)⟩
theorem Nd.has {v : Nat} {ds : List Dec} {x : Nat} {P : Nat → Bool} (h : Nd v ds x P) : Has ds x (S ds x):=⟨h.lt,fun _ => rfl⟩
theorem Nd.congr {v : Nat} {ds : List Dec} {x : Nat} {P Q : Nat → Bool} (h : Nd v ds x P) (e : ∀ s,s < 2 ^ v → P s = Q s) : Nd v ds x Q:=⟨h.lt,fun s hs => (h.says s hs).trans (e s hs)⟩
theorem Nd.keep {v : Nat} {ds ds' : List Dec} {x : Nat} {P : Nat → Bool} (h : Nd v ds x P) (k : Keep ds ds') : Nd v ds' x P:=by
 have:=k x _ h.has
 exact ⟨this.lt,fun s hs => (this.says _).trans (h.says s hs)⟩
theorem Nd.one {v : Nat} {ds : List Dec} {x y : Nat} {P Q : Nat → Bool} (wf : WF v ds) (h : Nd v ds x P) (k : Nd v ds y Q) (e : ∀ s,s < 2 ^ v → P s = Q s) : x = y:=by
 refine one_of_same wf h.lt k.lt fun a => ?_
 obtain ⟨s,hs,hb⟩:=exists_bits v a
 rw [S_congr wf x a (Bd.bits s) h.lt (fun i hi => (hb i (Nat.lt_of_lt_of_le hi (top_le wf h.lt))).symm),S_congr wf y a (Bd.bits s) k.lt (fun i hi => (hb i (Nat.lt_of_lt_of_le hi (top_le wf k.lt))).symm),h.says s hs,k.says s hs,e s hs]
theorem Nd.never (v : Nat) (ds : List Dec) : Nd v ds 0 fun _ => false:=(Has.never ds).nd fun _ _ => rfl
theorem Nd.always (v : Nat) (ds : List Dec) : Nd v ds 1 fun _ => true:=(Has.always ds).nd fun _ _ => rfl
theorem Nd.zero {v : Nat} {ds : List Dec} {x : Nat} {P : Nat → Bool} (wf : WF v ds) (h : Nd v ds x P) : x = 0 ↔ ∀ s,s < 2 ^ v → P s = false:=by
 constructor
 ·rintro rfl s hs
  rw [← h.says s hs]
  exact (Nd.never v ds).says s hs
 ·exact fun e => h.one wf (Nd.never v ds) e
def TellsN (w : World) (B p m : Nat) (sv : Value) (v : Nat) (ds : List Dec) (P : Nat → Bool) (e : Ending) (w' : World) : Prop :=
 ∃ r ds' sv',Nd v ds' r P ∧ Keep ds ds' ∧ ds'.length ≤ ds.length + 255 ∧ e = .returned (.tuple #[.int .i64 ((r : Nat) : Int), .int .i64 0]) ∧ Ar w' B p m sv' v ds' ∧ Fr p m sv w sv' w'
theorem TellsH.tn {w : World} {B p m : Nat} {sv : Value} {v : Nat} {ds : List Dec} {g : (Nat → Bool) → Bool} {P : Nat → Bool} {e : Ending} {w' : World} (h : TellsH w B p m sv v ds g e w') (he : ∀ s,s < 2 ^ v → g (Bd.bits s) = P s) : TellsN w B p m sv v ds P e w':=by
 obtain ⟨r,ds',sv',h1,h2⟩:=h
 exact ⟨r,ds',sv',h1.nd he,h2⟩
section
variable {w : World} {B p m v : Nat} {sv : Value} {ds : List Dec} {x y c : Nat} {P Q R : Nat → Bool}
theorem varN (h : Ar w B p m sv v ds) (i : Nat) (hi : i < v) (hfew : ds.length + 256 ≤ 100000000) :
  Calls Tryz.prog 65 #[.pointer (some ⟨p,0,none⟩), .int .i64 (i : Int)] w (TellsN w B p m sv v ds (fun s => s.testBit i)) :=
 (varH h i hi hfew).mono fun _ _ T => T.tn fun _ _ => rfl
theorem notN (h : Ar w B p m sv v ds) (hx : Nd v ds x P) (hfew : ds.length + 256 ≤ 100000000) :
  Calls Tryz.prog 66 #[.pointer (some ⟨p,0,none⟩), .int .i64 (x : Int)] w (TellsN w B p m sv v ds (fun s => !P s)) :=
 (notH h hx.has hfew).mono fun _ _ T => T.tn fun s hs => by rw [hx.says s hs]
theorem andN (h : Ar w B p m sv v ds) (hx : Nd v ds x P) (hy : Nd v ds y Q) (hfew : ds.length + 256 ≤ 100000000) :
  Calls Tryz.prog 67 #[.pointer (some ⟨p,0,none⟩), .int .i64 (x : Int), .int .i64 (y : Int)] w (TellsN w B p m sv v ds (fun s => P s && Q s)) :=
 (andH h hx.has hy.has hfew).mono fun _ _ T => T.tn fun s hs => by rw [hx.says s hs,hy.says s hs]
theorem iteN (h : Ar w B p m sv v ds) (hc : Nd v ds c R) (hx : Nd v ds x P) (hy : Nd v ds y Q) (hfew : ds.length + 256 ≤ 100000000) :
  Calls Tryz.prog 93 #[.pointer (some ⟨p,0,none⟩), .int .i64 (c : Int), .int .i64 (x : Int), .int .i64 (y : Int)] w (TellsN w B p m sv v ds (fun s => if R s then P s else Q s)) :=
 (iteH h hc.has hx.has hy.has hfew).mono fun _ _ T => T.tn fun s hs => by rw [hx.says s hs,hy.says s hs,hc.says s hs]
theorem holdsN (h : Ar w B p m sv v ds) (hx : Nd v ds x P) (s : Nat) (hs : s < 2 ^ v) :
  Calls Tryz.prog 18 #[.pointer (some ⟨p,0,none⟩), .int .i64 (x : Int), .int .i64 (s : Int)] w fun e w' => e = .returned (.tuple #[.bool (P s), .int .i64 0]) ∧ Below w.heap.size w w':=by
 have:=holdsH h hx.has s hs
 rw [hx.says s hs] at this
 exact this
end
end Bdd
section
open Go.Shelf
def lays125_ren : Go.Shelf.Ren:=⟨fun | 125 => 92 | 128 => 137 | 129 => 138 | n => n,fun | 46 => 196 | 3 => 3 | 51 => 254 | 53 => 256 | 4 => 4 | 5 => 5 | 9 => 9 | n => n,fun | n => n⟩
theorem lays125 : Go.Proofs.Lays.n125 Tryz.prog lays125_ren:={
 mixed:=by kernel_rfl
 f125:=Tryz.func92.trans (congrArg some (by kernel_rfl))
 f128:=Tryz.func137.trans (congrArg some (by kernel_rfl))
 f129:=Tryz.func138.trans (congrArg some (by kernel_rfl))
 t3:=Tryz.underlying3
 a3:=Tryz.isAgg3
 z3:=Tryz.sizeOf3
 v3:=Tryz.zeroValue3
 t4:=Tryz.underlying4
 a4:=Tryz.isAgg4
 z4:=Tryz.sizeOf4
 v4:=Tryz.zeroValue4
 t5:=Tryz.underlying5
 a5:=Tryz.isAgg5
 z5:=Tryz.sizeOf5
 v5:=Tryz.zeroValue5
 t9:=Tryz.underlying9
 a9:=Tryz.isAgg9
 z9:=Tryz.sizeOf9
 v9:=Tryz.zeroValue9
 t46:=Tryz.underlying196
 a46:=Tryz.isAgg196
 z46:=Tryz.sizeOf196
 v46:=Tryz.zeroValue196
 t51:=Tryz.underlying254
 a51:=Tryz.isAgg254
 z51:=Tryz.sizeOf254
 v51:=Tryz.zeroValue254
 t53:=Tryz.underlying256
 a53:=Tryz.isAgg256
 z53:=Tryz.sizeOf256
 v53:=Tryz.zeroValue256 }
open Go.RowKit
theorem bitLen_log (n : Nat) (h : n ≠ 0) (h8 : n < 256) : Lib.bitLen n = n.log2 + 1:=by
 have all : ∀ a : Fin 256,a.1 ≠ 0 → Lib.bitLen a.1 = a.1.log2 + 1:=by decide +kernel
 exact all ⟨n,h8⟩ h
theorem bitslen_any (n : Nat) (h : n ≠ 0) (h8 : n < 256) (w : World) : Calls Tryz.prog 92 #[.int .u64 (n : Int)] w fun e w' => e = .returned (.int .i64 ((n.log2 + 1 : Nat) : Int)) ∧ w = w' :=
 (Any.bits_Len lays125 (n : Int) w (by omega) (by omega)).mono fun e w' ⟨h1,h2⟩ => ⟨by rw [h1,Int.toNat_natCast,bitLen_log n h h8],h2.symm⟩
namespace Pm
def low (n : Nat) : Nat:=n % 2 ^ n.log2
theorem low_lt (n : Nat) : low n < 2 ^ n.log2:=Nat.mod_lt _ (Nat.two_pow_pos _)
theorem log_lt {n k : Nat} (h0 : n ≠ 0) (h : n < 2 ^ k) : n.log2 < k:=(Nat.log2_lt h0).2 h
theorem top_bit {n : Nat} (h0 : n ≠ 0) (i : Nat) : n.testBit i = (decide (i = n.log2) || (low n).testBit i):=by
 have h1 : 2 ^ n.log2 ≤ n:=Nat.log2_self_le h0
 have h2 : n < 2 ^ (n.log2 + 1):=Nat.lt_log2_self
 unfold low
 rw [Nat.testBit_mod_two_pow]
 rcases Nat.lt_trichotomy i n.log2 with h | h | h
 ·simp [h,Nat.ne_of_lt h]
 ·subst h
  have : n.testBit n.log2 = true:=by
   rw [Nat.testBit_eq_decide_div_mod_eq]
   have : n / 2 ^ n.log2 = 1:=by
    apply Nat.div_eq_of_lt_le <;> rw [Nat.pow_succ] at h2 <;> omega
   simp [this]
  simp [this]
 ·have : n.testBit i = false:=Nat.testBit_lt_two_pow (Nat.lt_of_lt_of_le h2 (Nat.pow_le_pow_right (by omega) h))
  simp [this,Nat.ne_of_gt h,Nat.not_lt_of_gt h]
theorem pick_yes {n s t : Nat} (h0 : n ≠ 0) (hb : s.testBit n.log2 = true) : (t ||| 2 ^ n.log2) ||| (low n &&& s) = t ||| (n &&& s):=by
 refine Nat.eq_of_testBit_eq fun i => ?_
 simp only [Nat.testBit_or,Nat.testBit_and,Nat.testBit_two_pow]
 rw [top_bit h0 i]
 by_cases e : i = n.log2
 ·subst e
  simp [hb]
 ·have e' : ¬ n.log2 = i:=fun h => e h.symm
  simp [e,e']
theorem pick_no {n s t : Nat} (h0 : n ≠ 0) (hb : s.testBit n.log2 = false) : t ||| (low n &&& s) = t ||| (n &&& s):=by
 refine Nat.eq_of_testBit_eq fun i => ?_
 simp only [Nat.testBit_or,Nat.testBit_and]
 rw [top_bit h0 i]
 by_cases e : i = n.log2
 ·subst e
  simp [hb]
 ·simp [e]
end Pm
theorem bits_low (n : Nat) (h0 : n ≠ 0) (h8 : n < 256) : Go.bits .andNot .i64 (n : Int) (wrap64 (2 ^ n.log2)) = ((Pm.low n : Nat) : Int):=by
 have all : ∀ a : Fin 256,a.1 ≠ 0 → Go.bits .andNot .i64 (a.1 : Int) (wrap64 (2 ^ a.1.log2)) = ((Pm.low a.1 : Nat) : Int):=by decide +kernel
 exact all ⟨n,h8⟩ h0
theorem bits_high (t k : Nat) (ht : t < 256) (hk : k < 8) : Go.bits .or .i64 (t : Int) (wrap64 (2 ^ k)) = ((t ||| 2 ^ k : Nat) : Int):=by
 have all : ∀ a : Fin 256,∀ b : Fin 8,Go.bits .or .i64 (a.1 : Int) (wrap64 (2 ^ b.1)) = ((a.1 ||| 2 ^ b.1 : Nat) : Int):=by decide +kernel
 exact all ⟨t,ht⟩ ⟨k,hk⟩
end
section
open Go.RowKit Go.Shelf
open Bdd (Ar Nd Keep TellsN)
structure Does (j : Nat) (f : FuncId) (caps : Array Value) (G : Nat → Bool) (p m : Nat) (sv : Value) (w : World) : Prop where
 ent : ∀ (args : Array Value) (W : World),(callFunc f args).run Tryz.prog W = .ok (.enter f args) W
 does : ∀ (s : Nat) (sv' : Value) (W : World),s < 2 ^ j → Bdd.Fr p m sv w sv' W → Calls Tryz.prog f (#[.int .i64 (s : Int)] ++ caps) W fun e w' => e = .returned (.bool (G s)) ∧ Below W.heap.size W w'
theorem Does.on {j : Nat} {f : FuncId} {caps : Array Value} {G : Nat → Bool} {p m : Nat} {sv sv' : Value} {w w' : World} (h : Does j f caps G p m sv w) (F : Bdd.Fr p m sv w sv' w') : Does j f caps G p m sv' w' :=
 ⟨h.ent,fun s sv2 W hs F2 => h.does s sv2 W hs (F.trans F2)⟩
def DecPost (w : World) (B p m : Nat) (sv : Value) (v : Nat) (ds : List Bd.Dec) (P : Nat → Bool) (n : Nat) (e : Ending) (w' : World) : Prop :=
 ∃ r ds' sv',Nd v ds' r P ∧ Keep ds ds' ∧ ds'.length + 510 ≤ ds.length + n ∧ e = .returned (.int .i64 ((r : Nat) : Int)) ∧ Ar w' B p m sv' v ds' ∧ Bdd.Fr p m sv w sv' w'
theorem decided_any (j : Nat) (f : FuncId) (caps : Array Value) (G : Nat → Bool) (B p m v : Nat) (hj : v ≤ j) (hj8 : j ≤ 8) : ∀ (k : Nat) (w : World) (sv : Value) (ds : List Bd.Dec) (y t : Nat),Ar w B p m sv v ds → Does j f caps G p m sv w → y < 2 ^ k → k ≤ v → t < 2 ^ j → ds.length + 510 * 2 ^ k ≤ 100000000 →
  Calls Tryz.prog 52 #[.pointer (some ⟨p,0,none⟩), .int .i64 (y : Int), .int .i64 (t : Int), .func (.func f) #[] caps] w (DecPost w B p m sv v ds (fun s => G (t ||| (y &&& s))) (510 * 2 ^ k)):=by
 intro k
 induction k with
 | zero =>
  intro w sv ds y t h hD hy hk ht hfew
  obtain rfl : y = 0:=by simpa using hy
  have KD:=Lib.hid (hD.does t sv w ht (Bdd.Fr.refl p m sv w))
  have hent:=hD.ent
  have HA:=Lib.hid h
  clear hD hy hk ht hfew h
  go_enter Tryz.func52,Tryz.ntmps52
  go_wp2_with fail
  refine KD.out.mono ?_
  rintro e w1 ⟨rfl,hb⟩
  have HB:=Lib.hid hb
  clear hb
  cases hg : G t with
  | true =>
   go_wp2_with fail
   go_ret
   exact ⟨1,ds,sv,(Nd.always v ds).congr fun s _ => by simpa using hg.symm,Keep.refl ds,by omega,rfl,HA.out.below HB.out,Bdd.Fr.of_below HB.out _ _ _⟩
  | false =>
   go_wp2_with fail
   go_ret
   exact ⟨0,ds,sv,(Nd.never v ds).congr fun s _ => by simpa using hg.symm,Keep.refl ds,by omega,rfl,HA.out.below HB.out,Bdd.Fr.of_below HB.out _ _ _⟩
 | succ k ih =>
  intro w sv ds y t h hD hy hk ht hfew
  have hpow : 2 ^ (k + 1) = 2 * 2 ^ k:=by rw [Nat.pow_succ]; omega
  have v8:=h.v8
  have hv:=Bdd.pow8 v8
  have hy256 : y < 256:=Nat.lt_of_lt_of_le hy (Nat.le_trans (Nat.pow_le_pow_right (by omega) hk) hv)
  by_cases h0 : y = 0
  ·subst h0
   have KD:=Lib.hid (hD.does t sv w ht (Bdd.Fr.refl p m sv w))
   have hent:=hD.ent
   have hp1 : 0 < 2 ^ k:=Nat.two_pow_pos k
   have HA:=Lib.hid h
   have HP:=Lib.hid hpow
   clear hD hy hk ht hfew h ih hpow
   go_enter Tryz.func52,Tryz.ntmps52
   go_wp2_with fail
   refine KD.out.mono ?_
   rintro e w1 ⟨rfl,hb⟩
   have HB:=Lib.hid hb
   clear hb
   cases hg : G t with
   | true =>
    go_wp2_with fail
    go_ret
    exact ⟨1,ds,sv,(Nd.always v ds).congr fun s _ => by simpa using hg.symm,Keep.refl ds,by rw [HP.out]; omega,rfl,HA.out.below HB.out,Bdd.Fr.of_below HB.out _ _ _⟩
   | false =>
    go_wp2_with fail
    go_ret
    exact ⟨0,ds,sv,(Nd.never v ds).congr fun s _ => by simpa using hg.symm,Keep.refl ds,by rw [HP.out]; omega,rfl,HA.out.below HB.out,Bdd.Fr.of_below HB.out _ _ _⟩
  ·have hlog:=Pm.log_lt h0 hy
   obtain ⟨l,hl⟩ : ∃ l,l = y.log2:=⟨_,rfl⟩
   have KL:=Lib.hid (fun W => bitslen_any y h0 hy256 W)
   have hlow:=Pm.low_lt y
   have hbl:=bits_low y h0 hy256
   rw [← hl] at hlog KL hlow hbl
   have ht256 : t < 256:=Nat.lt_of_lt_of_le ht (Nat.pow_le_pow_right (n:=2) (by omega) hj8)
   have hbh:=bits_high t l ht256 (by omega)
   have hll : Pm.low y < 2 ^ k:=Nat.lt_of_lt_of_le hlow (Nat.pow_le_pow_right (by omega) (by omega))
   have hq : t ||| 2 ^ l < 2 ^ j:=Nat.or_lt_two_pow (n:=j) ht (Nat.pow_lt_pow_right (by omega) (by omega))
   have KV:=Lib.hid (Bdd.varN h l (by omega) (by rw [hpow] at hfew; have:=Nat.two_pow_pos k; omega))
   have e1 : ((y : Int) == 0) = false:=by simpa using h0
   have e2 : IntKind.i64.wrap (((l + 1 : Nat) : Int) - 1) = (l : Int):=by rw [IntWalk.i64_in _ (by omega)]; omega
   have e3 : (0 : Int) ≤ l:=by omega
   have e4 : (l : Int) ≤ 64:=by omega
   have e5 : IntKind.u64.wrap (y : Int) = (y : Int):=IntWalk.u64_in _ (by omega)
   have HPW:=Lib.hid hpow
   have HF:=Lib.hid hfew
   have HD:=Lib.hid hD
   have HL:=Lib.hid hl
   have HLL:=Lib.hid hll
   have HQ:=Lib.hid hq
   have HT:=Lib.hid ht
   have HIH:=Lib.hid ih
   have HK:=Lib.hid hk
   have H0:=Lib.hid h0
   have HV:=Lib.hid v8
   obtain ⟨q,hqq⟩ : ∃ q,q = t ||| 2 ^ l:=⟨_,rfl⟩
   obtain ⟨z,hz⟩ : ∃ z,z = Pm.low y:=⟨_,rfl⟩
   rw [← hqq] at hbh HQ
   rw [← hz] at hbl HLL
   have HQQ:=Lib.hid hqq
   have HZ:=Lib.hid hz
   clear hD hy hk ht hfew h ih hpow hv hlog hl hll hq h0 hlow v8 hqq hz hy256 ht256
   go_enter Tryz.func52,Tryz.ntmps52
   go_wp2_with fail
   refine (KL.out _).mono ?_
   rintro e w1 ⟨rfl,rfl⟩
   go_wp2_with fail
   refine KV.out.mono ?_
   rintro e w1 ⟨r1,ds1,sv1,hN1,hk1,hl1,rfl,hA1,hF1⟩
   have HN1:=Lib.hid hN1
   have HK1:=Lib.hid hk1
   have HL1:=Lib.hid hl1
   have HF1:=Lib.hid hF1
   have KW:=Lib.hid (HIH.out w1 sv1 ds1 z t hA1 (HD.out.on hF1) HLL.out (by have:=HK.out; omega) HT.out (by have:=HF.out; have:=HPW.out; have:=HL1.out; have:=Nat.two_pow_pos k; omega))
   clear hN1 hk1 hl1 hF1 hA1
   go_wp2_with fail
   refine KW.out.mono ?_
   rintro e w2 ⟨r2,ds2,sv2,hN2,hk2,hl2,rfl,hA2,hF2⟩
   have HN2:=Lib.hid hN2
   have HK2:=Lib.hid hk2
   have HL2:=Lib.hid hl2
   have hF12:=HF1.out.trans hF2
   have HF12:=Lib.hid hF12
   have hdr : Bdd.Fr p m sv2 w2 sv2 w2.drew:=Bdd.Fr.of_below (Below.refl _ w2).drew _ _ _
   have HFd:=Lib.hid (hF12.trans hdr)
   have KX:=Lib.hid (HIH.out w2.drew sv2 ds2 z q hA2.drew (HD.out.on HFd.out) HLL.out (by have:=HK.out; omega) HQ.out (by have:=HF.out; have:=HPW.out; have:=HL1.out; have:=HL2.out; have:=Nat.two_pow_pos k; omega))
   clear hN2 hk2 hl2 hF2 hA2 hF12 hdr
   go_wp2_with fail
   go_still_tail 10,(by kernel_rfl)
   change wpList _ _ _ _ _ w2.drew
   generalize w2.drew = W2 at HFd KX ⊢
   go_wp2_with fail
   rw [hbl,hbh]
   refine KX.out.mono ?_
   rintro e w3 ⟨r3,ds3,sv3,hN3,hk3,hl3,rfl,hA3,hF3⟩
   have hc:=(HN1.out.keep HK2.out).keep hk3
   have HL3:=Lib.hid hl3
   have HK3:=Lib.hid hk3
   have HF3:=Lib.hid (HFd.out.trans hF3)
   have KI:=Lib.hid (Bdd.iteN hA3 hc hN3 (HN2.out.keep hk3) (by have:=HF.out; have:=HPW.out; have:=HL1.out; have:=HL2.out; have:=Nat.two_pow_pos k; omega))
   clear hN3 hk3 hl3 hA3 hF3 hc
   go_wp2_with fail
   refine KI.out.mono ?_
   rintro e w4 ⟨r4,ds4,sv4,hN4,hk4,hl4,rfl,hA4,hF4⟩
   have HX:=Lib.hid (And.intro hN4 (And.intro hk4 (And.intro hl4 (And.intro hA4 hF4))))
   clear hN4 hk4 hl4 hA4 hF4
   go_wp2_with fail
   go_ret
   obtain ⟨hN4,hk4,hl4,hA4,hF4⟩:=HX.out
   refine ⟨r4,ds4,sv4,hN4.congr fun s _ => ?_,((HK1.out.trans HK2.out).trans HK3.out).trans hk4,by have:=HPW.out; have:=HL1.out; have:=HL2.out; have:=HL3.out; omega,rfl,hA4,HF3.out.trans hF4⟩
   rw [HZ.out,HQQ.out,HL.out]
   cases hb : s.testBit y.log2 with
   | true => rw [if_pos rfl,Pm.pick_yes H0.out hb]
   | false => rw [if_neg (by decide),Pm.pick_no H0.out hb]
end
section
open Go.RowKit Go.Shelf
open Bdd (Ar Nd Keep TellsN)
theorem pow_w {v : Nat} (h : v ≤ 8) : wrap64 ((2 : Int) ^ v) = ((2 ^ v : Nat) : Int) ∧ 2 ^ v ≤ 256:=by
 have hc : v = 0 ∨ v = 1 ∨ v = 2 ∨ v = 3 ∨ v = 4 ∨ v = 5 ∨ v = 6 ∨ v = 7 ∨ v = 8:=by omega
 rcases hc with rfl | rfl | rfl | rfl | rfl | rfl | rfl | rfl | rfl <;> exact ⟨by unfold wrap64; decide,by decide⟩
theorem each_any (f : FuncId) (caps : Array Value) (P : Nat → Bool) (Inv : Nat → World → Prop) (Stop : World → Prop) (B p m v x : Nat) (sv : Value) (ds : List Bd.Dec) (w : World)
  (hent : ∀ (args : Array Value) (W : World),(callFunc f args).run Tryz.prog W = .ok (.enter f args) W) (hx : Nd v ds x P) (h0 : Inv 0 w)
  (hA : ∀ s W,Inv s W → Ar W B p m sv v ds) (hb : ∀ s W W',Inv s W → Below W.heap.size W W' → Inv s W') (hno : ∀ s W,s < 2 ^ v → P s = false → Inv s W → Inv (s + 1) W)
  (hdo : ∀ s W,s < 2 ^ v → P s = true → Inv s W → Calls Tryz.prog f (#[.int .i64 (s : Int)] ++ caps) W fun e w' => ∃ b,e = .returned (.bool b) ∧ ((b = true ∧ Inv (s + 1) w') ∨ (b = false ∧ Stop w'))) :
  Calls Tryz.prog 32 #[.pointer (some ⟨p,0,none⟩), .int .i64 (x : Int), .func (.func f) #[] caps] w fun e w' => e = .returned (.tuple #[]) ∧ (Inv (2 ^ v) w' ∨ Stop w'):=by
 have v8:=(hA 0 w h0).v8
 obtain ⟨hw,hle⟩:=pow_w v8
 obtain ⟨N,hN⟩ : ∃ N,N = 2 ^ v:=⟨_,rfl⟩
 rw [← hN] at hw hle
 have KV:=Lib.hid (Bdd.vars_any (hA 0 w h0))
 have hv1 : (0 : Int) ≤ v:=by omega
 have hv2 : (v : Int) ≤ 64:=by omega
 have KH:=Lib.hid (fun s W (hs : s < N) (hi : Inv s W) => Bdd.holdsN (hA s W hi) hx s (by rw [← hN]; exact hs))
 rw [← hN] at hno hdo ⊢
 have H0:=Lib.hid h0
 have HB:=Lib.hid hb
 have HNO:=Lib.hid hno
 have HDO:=Lib.hid hdo
 clear h0 hb hno hdo hA hN v8 hx
 go_enter Tryz.func32,Tryz.ntmps32
 go_wp2_with fail
 refine KV.out.mono ?_
 rintro e w1 ⟨rfl,rfl⟩
 go_wp2_with fail
 rw [hw]
 clear hw
 go_loopw [12] (fun i wr => ∃ k : Nat,i = .int .i64 k ∧ k ≤ N ∧ Inv k wr) (fun i _ => N - (intOf i).toNat)
 case atStart => exact ⟨0,rfl,Nat.zero_le _,H0.out⟩
 case round =>
  obtain ⟨k,rfl,hk,hI⟩:=hrel
  have HI:=Lib.hid hI
  clear hI
  by_cases hlt : k < N
  ·have z1 : (k : Int) < N:=by omega
   have KK:=Lib.hid (KH.out k wr hlt HI.out)
   go_wp2_with fail
   refine KK.out.mono ?_
   rintro e w2 ⟨rfl,hb2⟩
   have HI2:=Lib.hid (HB.out k _ _ HI.out hb2)
   clear hb2
   cases hp : P k with
   | false =>
    have HI3:=Lib.hid (HNO.out k _ hlt hp HI2.out)
    go_wp2_with fail
    go_roundw
    case rel => exact ⟨k + 1,by go_num,hlt,HI3.out⟩
    case measure => simp [intOf]; omega
   | true =>
    have KD:=Lib.hid (HDO.out k _ hlt hp HI2.out)
    go_wp2_with fail
    refine KD.out.mono ?_
    rintro e w3 ⟨b,rfl,hb3⟩
    have HB3:=Lib.hid hb3
    clear hb3
    cases b with
    | false =>
     go_wp2_with fail
     have hst:=(HB3.out.resolve_left fun h => by cases h.1).2
     exact bodyPost_ret (v:=.tuple #[]) (by simp [results,Tryz.results32,go_sem]) rfl ⟨rfl, .inr hst⟩
    | true =>
     have HI3:=Lib.hid (HB3.out.resolve_right fun h => by cases h.1).2
     go_wp2_with fail
     go_roundw
     case rel => exact ⟨k + 1,by go_num,hlt,HI3.out⟩
     case measure => simp [intOf]; omega
  ·obtain rfl : k = N:=by omega
   go_wp2_with fail
   go_end0
   exact ⟨rfl, .inl HI.out⟩
end
section
open Go.RowKit Go.Shelf Go.MapKept
def intKey (n : Nat) : Value:=.int .i64 (n : Int)
theorem findNow_int {s : Nat} : ∀ (l : List MapEntry) (es : List (Nat × Value)) (j : Nat),l.map (fun e => (e.key,e.val)) = es.map (fun x => (intKey x.1,x.2)) →
  (lk s es = none ∧ Instr.findNow (.int .i64) (intKey s) l j = some none) ∨ ∃ i v,lk s es = some v ∧ Instr.findNow (.int .i64) (intKey s) l j = some (some (i,v))
 | [],[],j,_ => .inl ⟨rfl,rfl⟩
 | [],_ :: _,_,he => by cases he
 | _ :: _,[],_,he => by cases he
 | e :: l,(a,v) :: es,j,he => by
  rw [List.map_cons,List.map_cons] at he
  injection he with h1 h2
  injection h1 with h3 h4
  have h3 : e.key = .int .i64 (a : Int):=h3
  have h4 : e.val = v:=h4
  unfold Instr.findNow
  rw [h3,show Instr.sameNow (.int .i64) (intKey s) (.int .i64 (a : Int)) = some ((s : Int) == (a : Int)) from rfl,lk]
  by_cases hx : a = s
  ·right
   refine ⟨j,v,by rw [if_pos hx],?_⟩
   have hb : ((s : Int) == (a : Int)) = true:=by rw [hx]; exact beq_self_eq_true _
   rw [hb,h4]
  ·have hb : ((s : Int) == (a : Int)) = false:=beq_eq_false_iff_ne.2 (by omega)
   rw [if_neg hx,hb]
   exact findNow_int l es (j + 1) h2
theorem findKey_int {W : World} {k : TypeId} (hu : Tryz.prog.underlying k = some (.int .i64)) (s : Nat) (l : List MapEntry) (es : List (Nat × Value)) (he : l.map (fun e => (e.key,e.val)) = es.map (fun x => (intKey x.1,x.2))) :
  (lk s es = none ∧ (Instr.findKey k (intKey s) l).run Tryz.prog W = .ok none W) ∨ ∃ i v,lk s es = some v ∧ (Instr.findKey k (intKey s) l).run Tryz.prog W = .ok (some (i,v)) W:=by
 rcases findNow_int (s:=s) l es 0 he with ⟨h1,h2⟩ | ⟨i,v,h1,h2⟩
 ·exact .inl ⟨h1,Go.MapKept.run_findKey hu h2⟩
 ·exact .inr ⟨i,v,h1,Go.MapKept.run_findKey hu h2⟩
theorem checkInt3 (b : Bool) (s : Int) (W : World) : (Instr.checkKey b 10000 3 (.int .i64 s)).run Tryz.prog W = .ok () W:=by kernel_rfl
theorem checkIntN (b : Bool) (s : Int) (W : World) : (Instr.checkKey b 10000 39 (.int .i64 s)).run Tryz.prog W = .ok () W:=by kernel_rfl
theorem zeroII (W : World) : (zeroValue 2).run Tryz.prog W = .ok (.int .i64 0) W:=by kernel_rfl
theorem zeroNN (W : World) : (zeroValue 39).run Tryz.prog W = .ok (.int .i64 0) W:=by kernel_rfl
section
variable {W : World} {mb : Nat} {es : List (Nat × Value)}
theorem look_ii (hm : MpAt intKey W mb es) (s : Nat) : (Instr.lookup 155 (.map (some mb)) (.int .i64 (s : Int)) false).run Tryz.prog W = .ok ((lk s es).getD (.int .i64 0)) W:=by
 obtain ⟨arr,clock,h1,h2⟩:=hm
 have hg:=Go.MapKept.run_getObj_map (P:=Tryz.prog) h1
 unfold Instr.lookup
 simp only [Sem.run_bind,run_underlying Tryz.underlying155,Result.andThen_ok,hg,Sem.run_pure,checkInt3]
 rcases findKey_int (W:=W) Tryz.underlying3 s _ _ h2 with ⟨e1,e2⟩ | ⟨i,v,e1,e2⟩
 ·unfold intKey at e2
  rw [e2,e1]
  simp [zeroII]
 ·unfold intKey at e2
  rw [e2,e1]
  simp
theorem look_ii2 (hm : MpAt intKey W mb es) (s : Nat) : (Instr.lookup 155 (.map (some mb)) (.int .i64 (s : Int)) true).run Tryz.prog W = .ok (.tuple #[(lk s es).getD (.int .i64 0), .bool (lk s es).isSome]) W:=by
 obtain ⟨arr,clock,h1,h2⟩:=hm
 have hg:=Go.MapKept.run_getObj_map (P:=Tryz.prog) h1
 unfold Instr.lookup
 simp only [Sem.run_bind,run_underlying Tryz.underlying155,Result.andThen_ok,hg,Sem.run_pure,checkInt3]
 rcases findKey_int (W:=W) Tryz.underlying3 s _ _ h2 with ⟨e1,e2⟩ | ⟨i,v,e1,e2⟩
 ·unfold intKey at e2
  rw [e2,e1]
  simp [zeroII]
 ·unfold intKey at e2
  rw [e2,e1]
  simp
theorem new_ii (hm : MpAt intKey W mb es) (s : Nat) (hn : lk s es = none) (v : Value) :
  ∃ W',(Instr.mapUpdate 155 (.map (some mb)) (.int .i64 (s : Int)) v).run Tryz.prog W = .ok () W' ∧ MpAt intKey W' mb (es ++ [(s,v)]) ∧ W.grownBy W' (some mb):=by
 obtain ⟨arr,clock,h1,h2⟩:=hm
 have hg:=Go.MapKept.run_getObj_map (P:=Tryz.prog) h1
 have hs:=Go.MapKept.run_setObj_map (P:=Tryz.prog) (.map (arr.push { key:=.int .i64 (s : Int),val:=v,born:=clock }) (clock + 1)) h1
 have hh:=heap_set (o':=.map (arr.push { key:=.int .i64 (s : Int),val:=v,born:=clock }) (clock + 1)) h1
 refine ⟨{ W with heap:=W.heap.setIfInBounds mb (.map (arr.push { key:=.int .i64 (s : Int),val:=v,born:=clock }) (clock + 1)) },?_,⟨_,_,hh.1,?_⟩,rfl,rfl,rfl,?_,fun i hi hne => hh.2 i (fun e => hne (by rw [e]))⟩
 ·unfold Instr.mapUpdate
  simp only [Sem.run_bind,run_underlying Tryz.underlying155,Result.andThen_ok,hg,checkInt3]
  rcases findKey_int (W:=W) Tryz.underlying3 s _ _ h2 with ⟨e1,e2⟩ | ⟨i,v',e1,e2⟩
  ·unfold intKey at e2
   rw [e2]
   exact hs
  ·rw [e1] at hn; cases hn
 ·simp only [Array.toList_push,List.map_append,List.map_cons,List.map_nil,h2]
  rfl
 ·simp
theorem look_nn (hm : MpAt intKey W mb es) (s : Nat) : (Instr.lookup 128 (.map (some mb)) (.int .i64 (s : Int)) false).run Tryz.prog W = .ok ((lk s es).getD (.int .i64 0)) W:=by
 obtain ⟨arr,clock,h1,h2⟩:=hm
 have hg:=Go.MapKept.run_getObj_map (P:=Tryz.prog) h1
 unfold Instr.lookup
 simp only [Sem.run_bind,run_underlying Tryz.underlying128,Result.andThen_ok,hg,Sem.run_pure,checkIntN]
 rcases findKey_int (W:=W) Tryz.underlying39 s _ _ h2 with ⟨e1,e2⟩ | ⟨i,v,e1,e2⟩
 ·unfold intKey at e2
  rw [e2,e1]
  simp [zeroNN]
 ·unfold intKey at e2
  rw [e2,e1]
  simp
theorem look_nn2 (hm : MpAt intKey W mb es) (s : Nat) : (Instr.lookup 128 (.map (some mb)) (.int .i64 (s : Int)) true).run Tryz.prog W = .ok (.tuple #[(lk s es).getD (.int .i64 0), .bool (lk s es).isSome]) W:=by
 obtain ⟨arr,clock,h1,h2⟩:=hm
 have hg:=Go.MapKept.run_getObj_map (P:=Tryz.prog) h1
 unfold Instr.lookup
 simp only [Sem.run_bind,run_underlying Tryz.underlying128,Result.andThen_ok,hg,Sem.run_pure,checkIntN]
 rcases findKey_int (W:=W) Tryz.underlying39 s _ _ h2 with ⟨e1,e2⟩ | ⟨i,v,e1,e2⟩
 ·unfold intKey at e2
  rw [e2,e1]
  simp [zeroNN]
 ·unfold intKey at e2
  rw [e2,e1]
  simp
theorem new_nn (hm : MpAt intKey W mb es) (s : Nat) (hn : lk s es = none) (v : Value) :
  ∃ W',(Instr.mapUpdate 128 (.map (some mb)) (.int .i64 (s : Int)) v).run Tryz.prog W = .ok () W' ∧ MpAt intKey W' mb (es ++ [(s,v)]) ∧ W.grownBy W' (some mb):=by
 obtain ⟨arr,clock,h1,h2⟩:=hm
 have hg:=Go.MapKept.run_getObj_map (P:=Tryz.prog) h1
 have hs:=Go.MapKept.run_setObj_map (P:=Tryz.prog) (.map (arr.push { key:=.int .i64 (s : Int),val:=v,born:=clock }) (clock + 1)) h1
 have hh:=heap_set (o':=.map (arr.push { key:=.int .i64 (s : Int),val:=v,born:=clock }) (clock + 1)) h1
 refine ⟨{ W with heap:=W.heap.setIfInBounds mb (.map (arr.push { key:=.int .i64 (s : Int),val:=v,born:=clock }) (clock + 1)) },?_,⟨_,_,hh.1,?_⟩,rfl,rfl,rfl,?_,fun i hi hne => hh.2 i (fun e => hne (by rw [e]))⟩
 ·unfold Instr.mapUpdate
  simp only [Sem.run_bind,run_underlying Tryz.underlying128,Result.andThen_ok,hg,checkIntN]
  rcases findKey_int (W:=W) Tryz.underlying39 s _ _ h2 with ⟨e1,e2⟩ | ⟨i,v',e1,e2⟩
  ·unfold intKey at e2
   rw [e2]
   exact hs
  ·rw [e1] at hn; cases hn
 ·simp only [Array.toList_push,List.map_append,List.map_cons,List.map_nil,h2]
  rfl
 ·simp
end
end
section
open Go.RowKit Go.Shelf
open Bdd (Ar Nd Keep TellsN)
theorem bits_and2 (a b : Nat) (ha : a < 256) (hb : b < 256) : Go.bits .and .i64 (a : Int) (b : Int) = ((a &&& b : Nat) : Int):=by
 have hx : a &&& b < 256:=Nat.lt_of_le_of_lt Nat.and_le_left ha
 have ea : (BitVec.ofInt 64 (a : Int)).toNat = a:=by rw [BitVec.ofInt_natCast,BitVec.toNat_ofNat]; exact Nat.mod_eq_of_lt (by omega)
 have eb : (BitVec.ofInt 64 (b : Int)).toNat = b:=by rw [BitVec.ofInt_natCast,BitVec.toNat_ofNat]; exact Nat.mod_eq_of_lt (by omega)
 show IntKind.i64.wrap ((BitVec.ofInt 64 (a : Int) &&& BitVec.ofInt 64 (b : Int)).toNat : Int) = _
 rw [BitVec.toNat_and,ea,eb]
 exact IntWalk.i64_in _ (by omega)
structure VB (W : World) (b4 b6 b1 b5 mb o p x : Nat) (e : Int) (nv tv : Value) (es : List (Nat × Value)) : Prop where
 own : W.heap[b4]? = some (.cells #[.int .i64 (o : Int)] 3 (0,0))
 vals : W.heap[b6]? = some (.cells #[.map (some mb)] 155 (0,0))
 qst : W.heap[b1]? = some (.cells #[.pointer (some ⟨p,0,none⟩),nv,tv, .int .i64 (x : Int)] 86 (0,0))
 err : W.heap[b5]? = some (.cells #[.int .i64 e] 26 (0,0))
 mp : MpAt intKey W mb es
section
variable {W W' : World} {b4 b6 b1 b5 mb o p x : Nat} {e : Int} {nv tv : Value} {es : List (Nat × Value)}
theorem VB.keep (h : VB W b4 b6 b1 b5 mb o p x e nv tv es) (hk : ∀ k,k = b4 ∨ k = b6 ∨ k = b1 ∨ k = b5 ∨ k = mb → W'.heap[k]? = W.heap[k]?) : VB W' b4 b6 b1 b5 mb o p x e nv tv es :=
 ⟨(hk _ (by simp)).trans h.own,(hk _ (by simp)).trans h.vals,(hk _ (by simp)).trans h.qst,(hk _ (by simp)).trans h.err,h.mp.keep fun _ ho => (hk _ (by simp)).trans ho⟩
theorem VB.below (h : VB W b4 b6 b1 b5 mb o p x e nv tv es) (hB : Below W.heap.size W W') : VB W' b4 b6 b1 b5 mb o p x e nv tv es :=
 h.keep fun k hk => by
  rcases hk with rfl | rfl | rfl | rfl | rfl
  ·exact hB.block _ (lt_of_heap h.own)
  ·exact hB.block _ (lt_of_heap h.vals)
  ·exact hB.block _ (lt_of_heap h.qst)
  ·exact hB.block _ (lt_of_heap h.err)
  ·exact hB.block _ h.mp.lt
end
def Rd5 (b6 b1 mb p x : Nat) (nv tv : Value) (w' : World) : Prop:=w'.cell? ⟨b6,0,none⟩ = some (.map (some mb)) ∧ w'.cell? ⟨b1,0,none⟩ = some (.pointer (some ⟨p,0,none⟩)) ∧ w'.cell? ⟨b1,1,none⟩ = some nv ∧ w'.cell? ⟨b1,2,none⟩ = some tv ∧ w'.cell? ⟨b1,3,none⟩ = some (.int .i64 (x : Int))
theorem VB.rd {W : World} {b4 b6 b1 b5 mb o p x : Nat} {e : Int} {nv tv : Value} {es : List (Nat × Value)} (h : VB W b4 b6 b1 b5 mb o p x e nv tv es) : Rd5 b6 b1 mb p x nv tv W :=
 ⟨(Lib.cell_of_heap h.vals 0).trans rfl,(Lib.cell_of_heap h.qst 0).trans rfl,(Lib.cell_of_heap h.qst 1).trans rfl,(Lib.cell_of_heap h.qst 2).trans rfl,(Lib.cell_of_heap h.qst 3).trans rfl⟩
theorem VB.seterr {W : World} {b4 b6 b1 b5 mb o p x : Nat} {e e' : Int} {nv tv : Value} {es : List (Nat × Value)} (h : VB W b4 b6 b1 b5 mb o p x e nv tv es) (h4 : b5 ≠ b4) (h6 : b5 ≠ b6) (h1 : b5 ≠ b1) : VB (W.setCell ⟨b5,0,none⟩ (.int .i64 e')) b4 b6 b1 b5 mb o p x e' nv tv es:=by
 have k:=fun j (hj : b5 ≠ j) => heap_setCell_other W ⟨b5,0,none⟩ j (.int .i64 e') (fun e => hj e.symm)
 refine ⟨(k _ h4).trans h.own,(k _ h6).trans h.vals,(k _ h1).trans h.qst,?_,h.mp.set h.err _⟩
 have:=h.err
 simp [World.setCell,Array.getElem?_modify,this]
theorem v1_put (W w4 : World) (b4 b6 b1 b5 mb o p x q : Nat) (vl er : Int) (nv tv : Value) (es : List (Nat × Value)) (h : VB W b4 b6 b1 b5 mb o p x 0 nv tv es) (hlk : lk q es = none) (hne : b5 ≠ mb ∧ b5 ≠ b4 ∧ b5 ≠ b6 ∧ b5 ≠ b1 ∧ mb ≠ b4 ∧ mb ≠ b6 ∧ mb ≠ b1)
  (hb4 : Below W.drew.heap.size W.drew w4) : Rd5 b6 b1 mb p x nv tv w4 ∧ ∃ W6,(Instr.mapUpdate 155 (.map (some mb)) (.int .i64 (q : Int)) (.int .i64 vl)).run Tryz.prog w4 = .ok () W6 ∧ Rd5 b6 b1 mb p x nv tv W6 ∧ W6.cell? ⟨b5,0,none⟩ = some (.int .i64 0) ∧ W6.frozen? ⟨b5,0,none⟩ = false ∧
   Rd5 b6 b1 mb p x nv tv (W6.setCell ⟨b5,0,none⟩ (.int .i64 er)) ∧ VB (W6.setCell ⟨b5,0,none⟩ (.int .i64 er)) b4 b6 b1 b5 mb o p x er nv tv (es ++ [(q, .int .i64 vl)]) ∧
   W.heap.size ≤ (W6.setCell ⟨b5,0,none⟩ (.int .i64 er)).heap.size ∧ ((W6.setCell ⟨b5,0,none⟩ (.int .i64 er)).os = W.os ∧ (W6.setCell ⟨b5,0,none⟩ (.int .i64 er)).tape = W.tape ∧ (W6.setCell ⟨b5,0,none⟩ (.int .i64 er)).output = W.output) ∧ ∀ k,k < W.heap.size → k ≠ mb → k ≠ b5 → (W6.setCell ⟨b5,0,none⟩ (.int .i64 er)).heap[k]? = W.heap[k]?:=by
 obtain ⟨n1,n2,n3,n4,n5,n6,n7⟩:=hne
 have hB : Below W.heap.size W w4:=((Below.refl _ W).drew).trans hb4
 have h4:=h.below hB
 obtain ⟨W6,r1,hm6,hg6⟩:=new_ii h4.mp q hlk (.int .i64 vl)
 have hk : ∀ k o,w4.heap[k]? = some o → k ≠ mb → W6.heap[k]? = some o:=fun k o ho hk => (hg6.block k (lt_of_heap ho) (fun e => hk (by injection e))).trans ho
 have h6 : VB W6 b4 b6 b1 b5 mb o p x 0 nv tv (es ++ [(q, .int .i64 vl)]):=⟨hk _ _ h4.own (Ne.symm n5),hk _ _ h4.vals (Ne.symm n6),hk _ _ h4.qst (Ne.symm n7),hk _ _ h4.err n1,hm6⟩
 have h7:=h6.seterr (e':=er) n2 n3 n4
 refine ⟨h4.rd,W6,r1,h6.rd,(Lib.cell_of_heap h6.err 0).trans rfl,by simp [World.frozen?,h6.err],h7.rd,h7,?_,⟨hg6.os.trans hB.os,hg6.tape.trans hB.tape,hg6.output.trans hB.output⟩,fun k hk1 hk2 hk3 => ?_⟩
 ·have:=hB.size
  have:=hg6.size
  simp
  omega
 ·rw [heap_setCell_other W6 ⟨b5,0,none⟩ k _ hk3,hg6.block k (Nat.lt_of_lt_of_le hk1 hB.size) (fun e => hk2 (by injection e)),hB.block k hk1]
theorem v1_any (W : World) (b4 b6 b1 b5 mb o p x s : Nat) (nad tad : Option Addr) (ncap tcap N L : Nat) (es : List (Nat × Value)) (h : VB W b4 b6 b1 b5 mb o p x 0 (.slice nad N ncap) (.slice tad L tcap) es) (hs : s < 256) (ho : o < 256)
  (vl er : Int) (hv : lk (s &&& o) es = none → ∀ W',Below W.heap.size W W' → Calls Tryz.prog 70 #[questV p (.slice nad N ncap) (.slice tad L tcap) x, .int .i64 ((s &&& o : Nat) : Int)] W' fun e w' => e = .returned (.tuple #[.int .i64 vl, .int .i64 er]) ∧ Below W'.heap.size W' w') (hne : b5 ≠ mb ∧ b5 ≠ b4 ∧ b5 ≠ b6 ∧ b5 ≠ b1 ∧ mb ≠ b4 ∧ mb ≠ b6 ∧ mb ≠ b1) :
  Calls Tryz.prog 69 #[.int .i64 (s : Int), .pointer (some ⟨b4,0,none⟩), .pointer (some ⟨b6,0,none⟩), .pointer (some ⟨b1,0,none⟩), .pointer (some ⟨b5,0,none⟩)] W fun e w' =>
   (∃ v0,lk (s &&& o) es = some v0 ∧ e = .returned (.bool true) ∧ w' = W) ∨
   (lk (s &&& o) es = none ∧ e = .returned (.bool (decide (er = 0))) ∧ VB w' b4 b6 b1 b5 mb o p x er (.slice nad N ncap) (.slice tad L tcap) (es ++ [(s &&& o, .int .i64 vl)]) ∧ W.heap.size ≤ w'.heap.size ∧ (w'.os = W.os ∧ w'.tape = W.tape ∧ w'.output = W.output) ∧ ∀ k,k < W.heap.size → k ≠ mb → k ≠ b5 → w'.heap[k]? = W.heap[k]?):=by
 have hb:=bits_and2 s o hs ho
 obtain ⟨q,hq⟩ : ∃ q,q = s &&& o:=⟨_,rfl⟩
 rw [← hq] at hb hv ⊢
 have c4 : W.cell? ⟨b4,0,none⟩ = some (.int .i64 (o : Int)):=(Lib.cell_of_heap h.own 0).trans rfl
 have c6 : W.cell? ⟨b6,0,none⟩ = some (.map (some mb)):=(Lib.cell_of_heap h.vals 0).trans rfl
 have c5 : W.cell? ⟨b5,0,none⟩ = some (.int .i64 0):=(Lib.cell_of_heap h.err 0).trans rfl
 have hl2:=look_ii2 h.mp q
 have HH:=Lib.hid h
 have HV:=Lib.hid hv
 clear h hv hq
 cases hlk : lk q es with
 | some v0 =>
  rw [hlk] at hl2
  simp only [Option.getD_some,Option.isSome_some] at hl2
  go_enter Tryz.func69,Tryz.ntmps69
  go_wp2_with fail
  go_ret
  exact .inl ⟨v0,rfl,rfl,rfl⟩
 | none =>
  rw [hlk] at hl2
  simp only [Option.getD_none,Option.isSome_none] at hl2
  have KV:=Lib.hid (HV.out hlk)
  unfold questV at KV
  go_enter Tryz.func69,Tryz.ntmps69
  go_wp2_with fail
  have g6 : W.drew.cell? ⟨b6,0,none⟩ = some (.map (some mb)):=c6
  have g0 : W.drew.cell? ⟨b1,0,none⟩ = some (.pointer (some ⟨p,0,none⟩)):=(Lib.cell_of_heap HH.out.qst 0).trans rfl
  have g1 : W.drew.cell? ⟨b1,1,none⟩ = some (.slice nad N ncap):=(Lib.cell_of_heap HH.out.qst 1).trans rfl
  have g2 : W.drew.cell? ⟨b1,2,none⟩ = some (.slice tad L tcap):=(Lib.cell_of_heap HH.out.qst 2).trans rfl
  have g3 : W.drew.cell? ⟨b1,3,none⟩ = some (.int .i64 (x : Int)):=(Lib.cell_of_heap HH.out.qst 3).trans rfl
  have KD:=Lib.hid (fun (w4 : World) (hb4 : Below W.drew.heap.size W.drew w4) => v1_put W w4 b4 b6 b1 b5 mb o p x q vl er _ _ es HH.out hlk hne hb4)
  clear hl2 c4 c6 c5 hb hlk
  go_region_held3 (fun w' => w'.cell? ⟨b6,0,none⟩ = some (.map (some mb)) ∧ w'.cell? ⟨b1,0,none⟩ = some (.pointer (some ⟨p,0,none⟩)) ∧ w'.cell? ⟨b1,1,none⟩ = some (.slice nad N ncap) ∧ w'.cell? ⟨b1,2,none⟩ = some (.slice tad L tcap) ∧ w'.cell? ⟨b1,3,none⟩ = some (.int .i64 (x : Int))) (first | exact ⟨g6,g0,g1,g2,g3⟩ | exact h4 | exact h6 | exact h7)
   (first
    | (go_at_call 70; (with_reducible refine (KV.out W.drew ((Below.refl _ W).drew)).mono ?_); rintro e4 w4 ⟨rfl,hb4⟩; obtain ⟨h4,W6,r1,h6,k5,f5,h7,hVB,hFR⟩:=KD.out w4 hb4))
  have k7:=(Lib.cell_of_heap hVB.err 0).trans rfl
  have HF:=Lib.hid (And.intro hVB hFR)
  clear hVB hFR h4 h6 h7 r1 k5 f5
  go_wp2_with fail
  go_ret
  exact .inr ⟨trivial,rfl,HF.out.1,HF.out.2⟩
theorem v2_any (W : World) (b6 mb q : Nat) (es : List (Nat × Value)) (hb : W.heap[b6]? = some (.cells #[.map (some mb)] 155 (0,0))) (hm : MpAt intKey W mb es) (n : Int) (hn : (lk q es).getD (.int .i64 0) = .int .i64 n) :
  Calls Tryz.prog 71 #[.int .i64 (q : Int), .pointer (some ⟨b6,0,none⟩)] W fun e w' => e = .returned (.bool (n != 0)) ∧ w' = W:=by
 have c6 : W.cell? ⟨b6,0,none⟩ = some (.map (some mb)):=(Lib.cell_of_heap hb 0).trans rfl
 have hl:=look_ii hm q
 rw [hn] at hl
 clear hb hm hn
 go_enter Tryz.func71,Tryz.ntmps71
 go_wp2_with fail
 go_ret
 exact ⟨rfl,rfl⟩
end
section
open Go.RowKit Go.Shelf
open Bdd (Ar Nd Keep TellsN)
namespace Pm
def valued (ns : List ByteArray) (l : List K) (A : Ss) : Except Int Ss :=
 if !(words l).all (Wo.has ns) then .error 120
 else
  match firstErr ns.length (fun s => value (names ns s) l) A with
  | some e => .error e
  | none => .ok fun s => A s && (value (names ns s) l).1 != 0
theorem first_none {v : Nat} {f : Nat → Int × Int} {A : Ss} (h : ∀ s,s < 2 ^ v → A s = true → (f s).2 = 0) : firstErr v f A = none:=by
 unfold firstErr
 rw [List.findSome?_eq_none_iff]
 intro s hs
 have hs:=List.mem_range.1 hs
 cases ha : A s with
 | false => simp
 | true => simp [h s hs ha]
theorem findSome_at (g : Nat → Option Int) (e : Int) : ∀ (n s : Nat),s < n → g s = some e → (∀ i,i < s → g i = none) → (List.range n).findSome? g = some e
 | 0,s,h,_,_ => by omega
 | n + 1,s,h,h1,h2 => by
  rw [List.range_succ,List.findSome?_append]
  by_cases hs : s < n
  ·rw [findSome_at g e n s hs h1 h2]; rfl
  ·obtain rfl : s = n:=by omega
   rw [List.findSome?_eq_none_iff.2 fun i hi => h2 i (List.mem_range.1 hi)]
   simp [h1]
theorem first_some {v s : Nat} {f : Nat → Int × Int} {A : Ss} (hs : s < 2 ^ v) (ha : A s = true) (he : (f s).2 ≠ 0) (h : ∀ i,i < s → A i = true → (f i).2 = 0) : firstErr v f A = some (f s).2:=by
 refine findSome_at _ _ _ s hs (by simp [ha,he]) fun i hi => ?_
 cases hai : A i with
 | false => simp
 | true => simp [h i hi hai]
end Pm
def CondPost (w : World) (B p m : Nat) (sv : Value) (v : Nat) (ds : List Bd.Dec) (r : Except Int Pm.Ss) (e : Ending) (w' : World) : Prop :=
 match r with
 | .error k => e = .returned (.tuple #[.int .i64 0, .int .i64 k]) ∧ k ≠ 0 ∧ Below w.heap.size w w'
 | .ok Q => ∃ n ds' sv',Nd v ds' n Q ∧ Keep ds ds' ∧ ds'.length ≤ ds.length + (510 * 2 ^ v + 1020) ∧ e = .returned (.tuple #[.int .i64 ((n : Nat) : Int), .int .i64 0]) ∧ Ar w' B p m sv' v ds' ∧ Bdd.Fr p m sv w sv' w'
def VInv (w : World) (b4 b6 b1 b5 mb o p x : Nat) (nv tv : Value) (f : Nat → Int × Int) (A : Pm.Ss) (k : Nat) (W : World) : Prop :=
 ∃ es,VB W b4 b6 b1 b5 mb o p x 0 nv tv es ∧ Below w.heap.size w W ∧ (∀ q v0,lk q es = some v0 → v0 = .int .i64 (f q).1 ∧ (f q).2 = 0) ∧ ∀ s,s < k → A s = true → (f s).2 = 0 ∧ lk (s &&& o) es = some (.int .i64 (f s).1)
def VStop (w : World) (v b4 b6 b1 b5 mb o p x : Nat) (nv tv : Value) (f : Nat → Int × Int) (A : Pm.Ss) (W : World) : Prop :=
 ∃ es s,s < 2 ^ v ∧ A s = true ∧ (f s).2 ≠ 0 ∧ (∀ i,i < s → A i = true → (f i).2 = 0) ∧ VB W b4 b6 b1 b5 mb o p x (f s).2 nv tv es ∧ Below w.heap.size w W
theorem lk_snoc_old {q a : Nat} {v v0 : Value} {es : List (Nat × Value)} (h : lk q es = some v0) : lk q (es ++ [(a,v)]) = some v0:=by rw [lk_snoc,h]
theorem vround (w : World) (b4 b6 b1 b5 mb o p x v s : Nat) (nad tad : Option Addr) (ncap tcap N L : Nat) (ns : List ByteArray) (l : List K) (A : Pm.Ss) (W : World)
  (hn : Sts w (.slice nad N ncap) ns) (ht : Ks w (.slice tad L tcap) l) (hG : Gv w) (hN : NmL ns) (hv : v = ns.length) (ho : o = Pm.own ns l) (ho8 : o < 256) (hT : Tb l) (hl : l.length ≤ 1000)
  (hne : b5 ≠ mb ∧ b5 ≠ b4 ∧ b5 ≠ b6 ∧ b5 ≠ b1 ∧ mb ≠ b4 ∧ mb ≠ b6 ∧ mb ≠ b1) (hge : w.heap.size ≤ mb ∧ w.heap.size ≤ b5) (hs : s < 2 ^ v) (ha : A s = true)
  (h : VInv w b4 b6 b1 b5 mb o p x (.slice nad N ncap) (.slice tad L tcap) (fun s => Pm.value (Pm.names ns s) l) A s W) :
  Calls Tryz.prog 69 (#[.int .i64 (s : Int)] ++ #[.pointer (some ⟨b4,0,none⟩), .pointer (some ⟨b6,0,none⟩), .pointer (some ⟨b1,0,none⟩), .pointer (some ⟨b5,0,none⟩)]) W fun e w' => ∃ b,e = .returned (.bool b) ∧
   ((b = true ∧ VInv w b4 b6 b1 b5 mb o p x (.slice nad N ncap) (.slice tad L tcap) (fun s => Pm.value (Pm.names ns s) l) A (s + 1) w') ∨
   (b = false ∧ VStop w v b4 b6 b1 b5 mb o p x (.slice nad N ncap) (.slice tad L tcap) (fun s => Pm.value (Pm.names ns s) l) A w')):=by
 obtain ⟨es,hVB,hB,hes,hall⟩:=h
 have hv8 : v ≤ 8:=by rw [hv]; exact hN.len
 have hs8 : s < 256:=Nat.lt_of_lt_of_le hs (Bdd.pow8 hv8)
 have hown : Pm.value (Pm.names ns (s &&& o)) l = Pm.value (Pm.names ns s) l:=by rw [ho]; exact Pm.value_own hN.nd hN.def_not l s
 have hso : s &&& o < 2 ^ ns.length:=Nat.lt_of_le_of_lt Nat.and_le_left (by rw [← hv]; exact hs)
 have hval : ∀ W',Below W.heap.size W W' → Calls Tryz.prog 70 #[questV p (.slice nad N ncap) (.slice tad L tcap) x, .int .i64 ((s &&& o : Nat) : Int)] W' fun e w' => e = .returned (.tuple #[.int .i64 (Pm.value (Pm.names ns s) l).1, .int .i64 (Pm.value (Pm.names ns s) l).2]) ∧ Below W'.heap.size W' w':=fun W' hW' => by
  have hB' : Below w.heap.size w W':=Below.then hB hW'
  have:=value_any p x (s &&& o) _ _ ns l W' (hn.below hB') (ht.below hB') (hG.later hB') hN hso hT hl
  rw [hown] at this
  exact this
 refine (v1_any W b4 b6 b1 b5 mb o p x s nad tad ncap tcap N L es hVB hs8 ho8 _ _ (fun _ => hval) hne).mono ?_
 rintro e w' (⟨v0,h0,rfl,rfl⟩ | ⟨h0,rfl,h1,h2,h3,h4⟩)
 ·refine ⟨true,rfl, .inl ⟨rfl,es,hVB,hB,hes,fun i hi hai => ?_⟩⟩
  by_cases e : i = s
  ·subst e
   have:=hes _ _ h0
   dsimp only at this ⊢
   rw [hown] at this
   exact ⟨this.2,by rw [h0,this.1]⟩
  ·exact hall i (by omega) hai
 ·have hB' : Below w.heap.size w w':=⟨h3.1.trans hB.os,h3.2.1.trans hB.tape,h3.2.2.trans hB.output,Nat.le_trans hB.size h2,fun k hk => (h4 k (Nat.lt_of_lt_of_le hk hB.size) (by omega) (by omega)).trans (hB.block k hk)⟩
  by_cases he : (Pm.value (Pm.names ns s) l).2 = 0
  ·refine ⟨true,by rw [decide_eq_true he], .inl ⟨rfl,_,by rw [he] at h1; exact h1,hB',fun q v0 hq => ?_,fun i hi hai => ?_⟩⟩
   ·rw [lk_snoc] at hq
    cases hq0 : lk q es with
    | some v1 => rw [hq0] at hq; injection hq with hq; subst hq; exact hes q v1 hq0
    | none =>
     rw [hq0] at hq
     dsimp only at hq
     split at hq
     ·rename_i hqe
      injection hq with hq
      subst hqe
      dsimp only
      rw [hown]
      exact ⟨hq.symm,he⟩
     ·cases hq
   ·by_cases e : i = s
    ·subst e
     refine ⟨he,?_⟩
     rw [lk_snoc,h0]
     dsimp only
     rw [if_pos rfl]
    ·obtain ⟨e1,e2⟩:=hall i (by omega) hai
     exact ⟨e1,lk_snoc_old e2⟩
  ·exact ⟨false,by rw [decide_eq_false he], .inr ⟨rfl,_,s,hs,ha,he,fun i hi hai => (hall i hi hai).1,h1,hB'⟩⟩
theorem VInv.below {w : World} {b4 b6 b1 b5 mb o p x : Nat} {nv tv : Value} {f : Nat → Int × Int} {A : Pm.Ss} {k : Nat} {W W' : World} (h : VInv w b4 b6 b1 b5 mb o p x nv tv f A k W) (hB : Below W.heap.size W W') : VInv w b4 b6 b1 b5 mb o p x nv tv f A k W':=by
 obtain ⟨es,h1,h2,h3⟩:=h
 exact ⟨es,h1.below hB,Below.then h2 hB,h3⟩
theorem VInv.no {w : World} {b4 b6 b1 b5 mb o p x : Nat} {nv tv : Value} {f : Nat → Int × Int} {A : Pm.Ss} {k : Nat} {W : World} (h : VInv w b4 b6 b1 b5 mb o p x nv tv f A k W) (ha : A k = false) : VInv w b4 b6 b1 b5 mb o p x nv tv f A (k + 1) W:=by
 obtain ⟨es,h1,h2,h3,h4⟩:=h
 refine ⟨es,h1,h2,h3,fun i hi hai => ?_⟩
 by_cases e : i = k
 ·subst e; rw [ha] at hai; cases hai
 ·exact h4 i (by omega) hai
noncomputable def valuedBody : Code:=Tryz.f36.body.getD .skip
theorem valued_made (B p m v x b4 b6 b1 b5 mb o : Nat) (sv : Value) (ds : List Bd.Dec) (nv tv : Value) (ns : List ByteArray) (l : List K) (A : Pm.Ss) (w W : World) c0 c2 c3 c5 c7 c8 c9 c10 c11 c12 c13 c14 c15 c16 c17 c18 c19 c20 c21 c22 c23 c24 c25 c26 c27 c28 c29 c30 c31 c32 c33 c34 c35 c36 c37 c38 (hA : Ar w B p m sv v ds) (hx : Nd v ds x A) (hN : NmL ns) (hv : v = ns.length) (ho : o = Pm.own ns l) (ho8 : o < 2 ^ v) (hfew : ds.length + (510 * 2 ^ v + 1020) ≤ 100000000)
  (hge : w.heap.size ≤ b4 ∧ w.heap.size ≤ b6 ∧ w.heap.size ≤ b1 ∧ w.heap.size ≤ mb ∧ w.heap.size ≤ b5)
  (h : VInv w b4 b6 b1 b5 mb o p x nv tv (fun s => Pm.value (Pm.names ns s) l) A (2 ^ v) W) :
  Code.wp Tryz.prog (secs 6 valuedBody) (bodyPost Tryz.prog Tryz.f36 (CondPost w B p m sv v ds (.ok fun s => A s && (Pm.value (Pm.names ns s) l).1 != 0)))
   ⟨#[c0, .pointer (some ⟨b1,0,none⟩),c2,c3, .pointer (some ⟨b4,0,none⟩),c5, .pointer (some ⟨b6,0,none⟩),c7,c8,c9,c10,c11,c12,c13,c14,c15,c16,c17,c18,c19,c20,c21,c22,c23,c24,c25,c26,c27,c28,c29,c30,c31,c32,c33,c34,c35,c36,c37,c38],[]⟩ W:=by
 obtain ⟨es,hVB,hB,hes,hall⟩:=h
 have hAW:=hA.below hB
 have hF0 : Bdd.Fr p m sv w sv W:=Bdd.Fr.of_below hB _ _ _
 have v8:=hA.v8
 have hv8:=Bdd.pow8 v8
 have hpl : p < w.heap.size:=Bdd.lt_of_get hA.blk
 have hml : m < w.heap.size:=Bdd.lt_of_get hA.map
 have hsl : ∀ k,sv.ownBlock = some k → k < w.heap.size:=fun k e => (hA.row.lt k e).2
 -- what is kept,read
 obtain ⟨G,hG⟩ : ∃ G : Nat → Bool,G = fun q => match lk q es with | some (.int _ n) => n != 0 | _ => false:=⟨_,rfl⟩
 have hdoes : Does 8 71 #[.pointer (some ⟨b6,0,none⟩)] G p m sv W:=by
  refine ⟨fun args W => by kernel_rfl,fun s sv' W' hs F => ?_⟩
  have hk : ∀ k o,W.heap[k]? = some o → w.heap.size ≤ k → W'.heap[k]? = some o:=fun k o ho hk => (F.blk k (Bdd.lt_of_get ho) (by omega) (by omega) (fun e => by have:=hsl k e; omega)).trans ho
  have h6:=hk _ _ hVB.vals hge.2.1
  have hm:=hVB.mp.keep fun o ho => hk _ _ ho hge.2.2.2.1
  have hn : ∃ n,(lk s es).getD (.int .i64 0) = .int .i64 n ∧ G s = (n != 0):=by
   rw [hG]
   cases hq : lk s es with
   | none => exact ⟨0,rfl,by dsimp only; rw [hq]; rfl⟩
   | some v0 =>
    have h1:=(hes s v0 hq).1
    subst h1
    exact ⟨_,rfl,by dsimp only; rw [hq]⟩
  obtain ⟨n,hn1,hn2⟩:=hn
  refine (v2_any W' b6 mb s es h6 hm n hn1).mono ?_
  rintro e w' ⟨rfl,rfl⟩
  exact ⟨by rw [hn2],Below.refl _ _⟩
 have KD:=Lib.hid (decided_any 8 71 #[.pointer (some ⟨b6,0,none⟩)] G B p m v hA.v8 (Nat.le_refl _) v W sv ds o 0 hAW hdoes ho8 (Nat.le_refl _) (by omega) (by omega))
 have hGs : ∀ s,s < 2 ^ v → (A s && G (0 ||| (o &&& s))) = (A s && (Pm.value (Pm.names ns s) l).1 != 0):=fun s hs => by
  cases ha : A s with
  | false => rfl
  | true =>
   rw [Nat.zero_or,Nat.and_comm,hG]
   dsimp only
   rw [(hall s hs ha).2]
 have HGS:=Lib.hid hGs
 have HX:=Lib.hid hx
 have HF0:=Lib.hid hF0
 have HF:=Lib.hid hfew
 have HVB:=Lib.hid hVB
 have HGE:=Lib.hid hge
 have HSL:=Lib.hid hsl
 have HPL:=Lib.hid (And.intro hpl hml)
 have HWS:=Lib.hid hB.size
 have c0 : W.cell? ⟨b1,0,none⟩ = some (.pointer (some ⟨p,0,none⟩)):=hVB.rd.2.1
 have c4 : W.cell? ⟨b4,0,none⟩ = some (.int .i64 (o : Int)):=(Lib.cell_of_heap hVB.own 0).trans rfl
 clear hA hx hN hv ho hfew hge hVB hB hes hall hAW hF0 hpl hml hsl hG hdoes hGs ho8
 refine wp_sec 6 valuedBody rfl ?_
 conv => arg 2; whnf
 go_wp2_with fail
 refine KD.out.mono ?_
 rintro e w2 ⟨r2,ds2,sv2,hN2,hk2,hl2,rfl,hA2,hF2⟩
 have hq:=(hF2.blk b1 (Bdd.lt_of_get HVB.out.qst) (by have:=HPL.out; have:=HGE.out; omega) (by have:=HPL.out; have:=HGE.out; omega) (fun e => by have:=HSL.out _ e; have:=HGE.out; omega)).trans HVB.out.qst
 have d0 : w2.cell? ⟨b1,0,none⟩ = some (.pointer (some ⟨p,0,none⟩)):=(Lib.cell_of_heap hq 0).trans rfl
 have d3 : w2.cell? ⟨b1,3,none⟩ = some (.int .i64 (x : Int)):=(Lib.cell_of_heap hq 3).trans rfl
 have KA:=Lib.hid (Bdd.andN hA2 (HX.out.keep hk2) hN2 (by have:=HF.out; omega))
 have HF2:=Lib.hid (HF0.out.trans hF2)
 have HK2:=Lib.hid hk2
 have HL2:=Lib.hid hl2
 clear hN2 hk2 hl2 hA2 hF2 hq c0 c4
 go_wp2_with fail
 refine wp_sec 7 valuedBody rfl ?_
 conv => arg 2; whnf
 go_wp2_with fail
 refine KA.out.mono ?_
 rintro e w3 ⟨r3,ds3,sv3,hN3,hk3,hl3,rfl,hA3,hF3⟩
 have HFin : Hid (CondPost w B p m sv v ds (.ok fun s => A s && (Pm.value (Pm.names ns s) l).1 != 0) (.returned (.tuple #[.int .i64 ((r3 : Nat) : Int), .int .i64 0])) w3) :=
  Lib.hid ⟨r3,ds3,sv3,hN3.congr fun s hs => HGS.out s hs,HK2.out.trans hk3,by have:=HL2.out; omega,rfl,hA3,HF2.out.trans hF3⟩
 clear hN3 hk3 hl3 hA3 hF3
 go_wp2_with fail
 conv => arg 2; whnf
 go_wp2_with fail
 go_ret2
 exact HFin.out
theorem valued_ask (B p m v x b4 b6 b1 b5 mb o : Nat) (sv : Value) (ds : List Bd.Dec) (nad tad : Option Addr) (ncap tcap N L : Nat) (ns : List ByteArray) (l : List K) (A : Pm.Ss) (w W : World) c0 c2 c3 c7 c8 c9 c10 c11 c12 c13 c14 c15 c16 c17 c18 c19 c20 c21 c22 c23 c24 c25 c26 c27 c28 c29 c30 c31 c32 c33 c34 c35 c36 c37 c38 (hA : Ar w B p m sv v ds) (hx : Nd v ds x A)
  (hn : Sts w (.slice nad N ncap) ns) (ht : Ks w (.slice tad L tcap) l) (hG : Gv w) (hN : NmL ns) (hv : v = ns.length) (ho : o = Pm.own ns l) (ho8 : o < 2 ^ v) (hT : Tb l) (hl : l.length ≤ 1000) (hfew : ds.length + (510 * 2 ^ v + 1020) ≤ 100000000)
  (hge : w.heap.size ≤ b4 ∧ w.heap.size ≤ b6 ∧ w.heap.size ≤ b1 ∧ w.heap.size ≤ mb ∧ w.heap.size ≤ b5) (hne : b5 ≠ mb ∧ b5 ≠ b4 ∧ b5 ≠ b6 ∧ b5 ≠ b1 ∧ mb ≠ b4 ∧ mb ≠ b6 ∧ mb ≠ b1)
  (h : VB W b4 b6 b1 b5 mb o p x 0 (.slice nad N ncap) (.slice tad L tcap) []) (hB : Below w.heap.size w W)
  (R : Except Int Pm.Ss) (hR : R = match Pm.firstErr ns.length (fun s => Pm.value (Pm.names ns s) l) A with | some e => .error e | none => .ok fun s => A s && (Pm.value (Pm.names ns s) l).1 != 0) :
  Code.wp Tryz.prog (secs 4 valuedBody) (bodyPost Tryz.prog Tryz.f36 (CondPost w B p m sv v ds R))
   ⟨#[c0, .pointer (some ⟨b1,0,none⟩),c2,c3, .pointer (some ⟨b4,0,none⟩), .pointer (some ⟨b5,0,none⟩), .pointer (some ⟨b6,0,none⟩),c7,c8,c9,c10,c11,c12,c13,c14,c15,c16,c17,c18,c19,c20,c21,c22,c23,c24,c25,c26,c27,c28,c29,c30,c31,c32,c33,c34,c35,c36,c37,c38],[]⟩ W:=by
 have hv8:=Bdd.pow8 hA.v8
 have hI0 : VInv w b4 b6 b1 b5 mb o p x (.slice nad N ncap) (.slice tad L tcap) (fun s => Pm.value (Pm.names ns s) l) A 0 W:=⟨[],h,hB,(fun q v0 hq => by cases hq),fun s hs => by omega⟩
 have KE:=Lib.hid (each_any 69 #[.pointer (some ⟨b4,0,none⟩), .pointer (some ⟨b6,0,none⟩), .pointer (some ⟨b1,0,none⟩), .pointer (some ⟨b5,0,none⟩)] A
  (VInv w b4 b6 b1 b5 mb o p x (.slice nad N ncap) (.slice tad L tcap) (fun s => Pm.value (Pm.names ns s) l) A) (VStop w v b4 b6 b1 b5 mb o p x (.slice nad N ncap) (.slice tad L tcap) (fun s => Pm.value (Pm.names ns s) l) A)
  B p m v x sv ds W (fun args W => by kernel_rfl) hx hI0 (fun s W' hI => by obtain ⟨es,_,hb,_⟩:=hI; exact hA.below hb) (fun s W1 W2 hI hb => hI.below hb) (fun s W' _ ha hI => hI.no ha)
  (fun s W' hs ha hI => vround w b4 b6 b1 b5 mb o p x v s nad tad ncap tcap N L ns l A W' hn ht hG hN hv ho (by omega) hT hl hne ⟨hge.2.2.2.1,hge.2.2.2.2⟩ hs ha hI))
 have c0 : W.cell? ⟨b1,0,none⟩ = some (.pointer (some ⟨p,0,none⟩)):=h.rd.2.1
 have c3 : W.cell? ⟨b1,3,none⟩ = some (.int .i64 (x : Int)):=h.rd.2.2.2.2
 have KM:=Lib.hid (fun (W' : World) (c0 c2 c3 c5 c7 c8 c9 c10 c11 c12 c13 c14 c15 c16 c17 c18 c19 c20 c21 c22 c23 c24 c25 c26 c27 c28 c29 c30 c31 c32 c33 c34 c35 c36 c37 c38 : Value) (hI : VInv w b4 b6 b1 b5 mb o p x (.slice nad N ncap) (.slice tad L tcap) (fun s => Pm.value (Pm.names ns s) l) A (2 ^ v) W') => valued_made B p m v x b4 b6 b1 b5 mb o sv ds (.slice nad N ncap) (.slice tad L tcap) ns l A w W' c0 c2 c3 c5 c7 c8 c9 c10 c11 c12 c13 c14 c15 c16 c17 c18 c19 c20 c21 c22 c23 c24 c25 c26 c27 c28 c29 c30 c31 c32 c33 c34 c35 c36 c37 c38 hA hx hN hv ho ho8 hfew hge hI)
 have HV:=Lib.hid hv
 have HR:=Lib.hid hR
 clear hA hx hn ht hG hN ho ho8 hT hl hfew hge hne h hB hI0 hv hR
 refine wp_sec 4 valuedBody rfl ?_
 conv => arg 2; whnf
 go_wp2_with fail
 refine KE.out.mono ?_
 rintro e w2 ⟨rfl,hc⟩
 rcases hc with hI | ⟨es,s,hs,ha,he,hlt,hVB,hB2⟩
 ·have hI2:=hI
  obtain ⟨es,hVB,hB2,hes,hall⟩:=hI
  have c5 : w2.cell? ⟨b5,0,none⟩ = some (.int .i64 0):=(Lib.cell_of_heap hVB.err 0).trans rfl
  have HI:=Lib.hid hI2
  have hno : Pm.firstErr ns.length (fun s => Pm.value (Pm.names ns s) l) A = none:=by rw [← HV.out]; exact Pm.first_none fun s hs ha => (hall s hs ha).1
  have hr:=HR.out
  rw [hno] at hr
  subst hr
  clear hI2 hVB hB2 hes hall hno c0 c3 HR
  go_wp2_with fail
  refine wp_sec 5 valuedBody rfl ?_
  conv => arg 2; whnf
  go_wp2_with fail
  exact KM.out w2 _ _ _ _ _ _ _ _ _ _ _ _ _ _ _ _ _ _ _ _ _ _ _ _ _ _ _ _ _ _ _ _ _ _ _ _ HI.out
 ·have c5 : w2.cell? ⟨b5,0,none⟩ = some (.int .i64 (Pm.value (Pm.names ns s) l).2):=(Lib.cell_of_heap hVB.err 0).trans rfl
  have hso : Pm.firstErr ns.length (fun s => Pm.value (Pm.names ns s) l) A = some (Pm.value (Pm.names ns s) l).2:=by rw [← HV.out]; exact Pm.first_some hs ha he hlt
  have hr:=HR.out
  rw [hso] at hr
  dsimp only at he
  obtain ⟨er,her⟩ : ∃ er,er = (Pm.value (Pm.names ns s) l).2:=⟨_,rfl⟩
  rw [← her] at c5 he hr
  subst hr
  clear HR
  have he1 : (er == 0) = false:=by simpa using he
  have HB2:=Lib.hid hB2
  have HE:=Lib.hid he
  clear hso hB2 hVB c0 c3 hs ha he hlt her
  go_wp2_with fail
  refine wp_sec 5 valuedBody rfl ?_
  conv => arg 2; whnf
  go_wp2_with fail
  go_quiet (fail)
  go_wp2_with fail
  go_ret2
  exact ⟨rfl,HE.out,Bdd.below_drewN HB2.out _⟩
theorem valued_any (B p m v x : Nat) (sv : Value) (ds : List Bd.Dec) (nv tv : Value) (ns : List ByteArray) (l : List K) (A : Pm.Ss) (w : World) (hA : Ar w B p m sv v ds) (hx : Nd v ds x A)
  (hn : Sts w nv ns) (ht : Ks w tv l) (hG : Gv w) (hN : NmL ns) (hv : v = ns.length) (hT : Tb l) (hl : l.length ≤ 1000) (hfew : ds.length + (510 * 2 ^ v + 1020) ≤ 100000000) :
  Calls Tryz.prog 36 #[questV p nv tv x] w (CondPost w B p m sv v ds (Pm.valued ns l A)):=by
 obtain ⟨nad,ncap,rfl,nc1,nc2, -⟩:=id hn
 obtain ⟨tad,tcap,rfl,tc1,tc2, -⟩:=id ht
 obtain ⟨N,hNN⟩ : ∃ N,N = ns.length:=⟨_,rfl⟩
 obtain ⟨L,hLL⟩ : ∃ L,L = l.length:=⟨_,rfl⟩
 have hv8 : ns.length ≤ 8:=hN.len
 obtain ⟨R,hR⟩ : ∃ R,R = Pm.valued ns l A:=⟨_,rfl⟩
 rw [← hR]
 unfold Pm.valued at hR
 have hB1 : Below w.heap.size w (w.alloc (.cells #[.pointer (some ⟨p,0,none⟩), .slice nad N ncap, .slice tad L tcap, .int .i64 (x : Int)] 86)):=(Below.refl _ w).alloc (Nat.le_refl _) _
 have hb1:=heap_alloc_new w (.cells #[.pointer (some ⟨p,0,none⟩), .slice nad N ncap, .slice tad L tcap, .int .i64 (x : Int)] 86)
 rw [← hNN] at hn nc1 ⊢
 rw [← hLL] at ht tc1 hl ⊢
 have KO:=Lib.hid (own_any p x (.slice nad N ncap) (.slice tad L tcap) ns l _ (hn.below hB1) (ht.below hB1) hv8 (by rw [← hLL]; omega))
 have HB1:=Lib.hid hB1
 have HBX:=Lib.hid hb1
 have HA:=Lib.hid hA
 have HX:=Lib.hid hx
 have HN:=Lib.hid hn
 have HT:=Lib.hid ht
 have HG:=Lib.hid hG
 have HNM:=Lib.hid hN
 have HV:=Lib.hid hv
 have HTB:=Lib.hid hT
 have HF:=Lib.hid hfew
 have HR:=Lib.hid hR
 have HLL:=Lib.hid hLL
 have HNN:=Lib.hid hNN
 clear hn ht hG hN hv hT hfew hA hx hR hB1 hb1 hNN hLL
 have hmm:=@run_makeMap Tryz.prog
 cases hw : (Pm.words l).all (Wo.has ns) with
 | false =>
  have hr:=HR.out
  rw [hw,if_pos (by rfl)] at hr
  have hov : Pm.ownV ns l = (0,120):=by unfold Pm.ownV; rw [hw,if_neg (by decide)]
  rw [hov] at KO
  unfold questV at KO ⊢
  subst hr
  clear hw hov HR
  go_enter Tryz.func36,Tryz.ntmps36
  show Code.wp Tryz.prog (secs 0 valuedBody) _ _ _
  refine wp_sec 0 valuedBody rfl ?_
  conv => arg 2; whnf
  go_wp2_with fail
  refine wp_sec 1 valuedBody rfl ?_
  conv => arg 2; whnf
  go_wp2_with fail
  refine KO.out.mono ?_
  rintro e w2 ⟨rfl,hB2⟩
  have HB2:=Lib.hid (Below.then HB1.out hB2)
  clear hB2
  go_wp2_with fail
  refine wp_sec 2 valuedBody rfl ?_
  conv => arg 2; whnf
  go_wp2_with fail
  go_quiet (fail)
  go_wp2_with fail
  go_ret2
  exact ⟨rfl,by decide,Bdd.below_drewN ((HB2.out.alloc HB2.out.size _).alloc (by have:=HB2.out.size; simp; omega) _) _⟩
 | true =>
  have hr:=HR.out
  rw [hw,if_neg (by decide)] at hr
  have hov : Pm.ownV ns l = (((Pm.own ns l : Nat) : Int),(0 : Int)):=by unfold Pm.ownV; rw [hw,if_pos rfl]
  rw [hov] at KO
  have hok : Wo.SetOk ns (Pm.words l):=fun d hd => (Wo.has_iff _ _).1 (List.all_eq_true.1 hw d hd)
  have ho8 : Pm.own ns l < 256:=Wo.bitsOf_lt ns hv8 _ hok
  obtain ⟨o,ho⟩ : ∃ o,o = Pm.own ns l:=⟨_,rfl⟩
  rw [← ho] at KO ho8
  have HO:=Lib.hid ho
  have HO8:=Lib.hid ho8
  have HR2:=Lib.hid hr
  have HW:=Lib.hid hw
  have KQ:=KO
  have ho2 : o < 2 ^ v:=by
   refine Nat.lt_pow_two_of_testBit _ fun i hi => ?_
   cases hb : o.testBit i with
   | false => rfl
   | true =>
    rw [ho] at hb
    obtain ⟨d,hd,he⟩:=Pm.mem_bits.1 hb
    have:=Wo.idx_lt (hok d hd)
    rw [he,← HV.out] at this
    omega
  have HO2:=Lib.hid ho2
  unfold questV at KO ⊢
  clear hw hov HR hok ho hr KQ ho8 ho2
  go_enter Tryz.func36,Tryz.ntmps36
  show Code.wp Tryz.prog (secs 0 valuedBody) _ _ _
  refine wp_sec 0 valuedBody rfl ?_
  conv => arg 2; whnf
  go_wp2_with fail
  refine wp_sec 1 valuedBody rfl ?_
  conv => arg 2; whnf
  go_wp2_with fail
  refine KO.out.mono ?_
  rintro e w2 ⟨rfl,hB2⟩
  have hq2:=(hB2.block _ (lt_of_heap HBX.out)).trans HBX.out
  have hb2:=Below.then HB1.out hB2
  have hs2:=hb2.size
  have hsq:=lt_of_heap hq2
  clear hB2
  go_wp2_with fail
  have h4:=heap_alloc2_old w2 (.cells #[.int .i64 (o : Int)] 3) (.cells #[.int .i64 0] 26)
  have h5:=heap_alloc2_new w2 (.cells #[.int .i64 (o : Int)] 3) (.cells #[.int .i64 0] 26)
  have hB3 : Below w2.heap.size w2 ((w2.alloc (.cells #[.int .i64 (o : Int)] 3)).alloc (.cells #[.int .i64 0] 26)):=((Below.refl _ w2).alloc (Nat.le_refl _) _).alloc (by simp) _
  have h1:=(hB3.block _ hsq).trans hq2
  have hsz : ((w2.alloc (.cells #[.int .i64 (o : Int)] 3)).alloc (.cells #[.int .i64 0] 26)).heap.size = w2.heap.size + 2:=by simp
  have hb3:=Below.then hb2 hB3
  generalize (w2.alloc (.cells #[.int .i64 (o : Int)] 3)).alloc (.cells #[.int .i64 0] 26) = W3 at h4 h5 h1 hsz hb3 ⊢
  generalize w2.heap.size = n2 at h4 h5 hsz hs2 hsq ⊢
  have c5 : W3.cell? ⟨n2 + 1,0,none⟩ = some (.int .i64 0):=(Lib.cell_of_heap h5 0).trans rfl
  have H1:=Lib.hid h1
  have H4:=Lib.hid h4
  have H5:=Lib.hid h5
  have HSZ:=Lib.hid hsz
  have HB3:=Lib.hid hb3
  have HS2:=Lib.hid hs2
  have HSQ:=Lib.hid hsq
  clear h1 h4 h5 hsz hb3 hs2 hsq hB3 hq2 hb2
  refine wp_sec 2 valuedBody rfl ?_
  conv => arg 2; whnf
  go_wp2_with fail
  refine wp_sec 3 valuedBody rfl ?_
  conv => arg 2; whnf
  go_wp2_with fail
  have hB4 : Below W3.heap.size W3 ((W3.alloc (.map #[] 0)).alloc (.cells #[.map (some W3.heap.size)] 155)):=((Below.refl _ W3).alloc (Nat.le_refl _) _).alloc (by simp) _
  have hmp : MpAt intKey ((W3.alloc (.map #[] 0)).alloc (.cells #[.map (some W3.heap.size)] 155)) W3.heap.size []:=⟨#[],0,heap_alloc2_old W3 (.map #[] 0) _,rfl⟩
  have h6:=heap_alloc2_new W3 (.map #[] 0) (.cells #[.map (some W3.heap.size)] 155)
  have hVB : VB ((W3.alloc (.map #[] 0)).alloc (.cells #[.map (some W3.heap.size)] 155)) n2 (W3.heap.size + 1) w.heap.size (n2 + 1) W3.heap.size o p x 0 (.slice nad N ncap) (.slice tad L tcap) [] :=
   ⟨(hB4.block _ (lt_of_heap H4.out)).trans H4.out,h6,(hB4.block _ (lt_of_heap H1.out)).trans H1.out,(hB4.block _ (lt_of_heap H5.out)).trans H5.out,hmp⟩
  have hsz:=HSZ.out
  have hs2:=HS2.out
  have hsq:=HSQ.out
  exact valued_ask B p m v x n2 (W3.heap.size + 1) w.heap.size (n2 + 1) W3.heap.size o sv ds nad tad ncap tcap N L ns l A w _ _ _ _ _ _ _ _ _ _ _ _ _ _ _ _ _ _ _ _ _ _ _ _ _ _ _ _ _ _ _ _ _ _ _ _ HA.out HX.out HN.out HT.out HG.out HNM.out HV.out HO.out HO2.out HTB.out (by rw [← HLL.out]; omega) HF.out
   ⟨by omega,by omega,by omega,by omega,by omega⟩ ⟨by omega,by omega,by omega,by omega,by omega,by omega,by omega⟩ hVB (Below.then HB3.out hB4) R HR2.out
end
section
open Go.RowKit Go.Shelf
open Bdd (Ar Nd Keep TellsN)
namespace Pm
def named (ns : List ByteArray) (l : List K) (b : Bool) (A : Ss) : Except Int Ss :=
 match nameOf l with
 | none => .error 60
 | some x => if Wo.has ns x then .ok fun s => A s && (s.testBit (Wo.idx ns x) == b) else .error 120
theorem named_none {ns : List ByteArray} {l : List K} {b : Bool} {A : Ss} (h : nameOf l = none) : named ns l b A = .error 60:=by unfold named; rw [h]
theorem named_in {ns : List ByteArray} {l : List K} {b : Bool} {A : Ss} {y : ByteArray} (h : nameOf l = some y) (hh : Wo.has ns y = true) : named ns l b A = .ok fun s => A s && (s.testBit (Wo.idx ns y) == b):=by
 unfold named; rw [h]; exact if_pos hh
theorem named_out {ns : List ByteArray} {l : List K} {b : Bool} {A : Ss} {y : ByteArray} (h : nameOf l = some y) (hh : Wo.has ns y = false) : named ns l b A = .error 120:=by
 unfold named; rw [h]; exact if_neg (by rw [hh]; decide)
end Pm
noncomputable def namedBody : Code:=Tryz.f35.body.getD .skip
theorem named_no (p x N L : Nat) (b : Bool) (nad tad : Option Addr) (ncap tcap : Nat) (l : List K) (w : World) (hL : L = l.length) (ht : Ks w (.slice tad L tcap) l) (h : Pm.nameOf l = none) :
  Calls Tryz.prog 35 #[questV p (.slice nad N ncap) (.slice tad L tcap) x, .bool b] w fun e w' => e = .returned (.tuple #[.int .i64 0, .int .i64 60]) ∧ Below w.heap.size w w':=by
 have hB1 : Below w.heap.size w (w.alloc (.cells #[.pointer (some ⟨p,0,none⟩), .slice nad N ncap, .slice tad L tcap, .int .i64 (x : Int)] 86)):=(Below.refl _ w).alloc (Nat.le_refl _) _
 have HB:=Lib.hid hB1
 have ht1:=ht.below hB1
 unfold questV
 by_cases h1 : L = 1
 ·subst h1
  obtain ⟨t,rfl⟩ : ∃ t,l = [t]:=List.length_eq_one_iff.1 hL.symm
  obtain ⟨g,o,rfl, -, -, -,hg,hc⟩:=ht1.cells (by simp)
  obtain ⟨d0, -⟩:=hc 0 t rfl
  rw [Nat.zero_mul,Nat.add_zero] at d0
  have hk : ¬ t.kind = 1:=fun e => by simp [Pm.nameOf,e] at h
  have e1 : (t.kind == 1) = false:=by simpa using hk
  have z1 : (1 : Int) ≤ tcap ∨ True:=.inr trivial
  clear hc ht ht1 hB1 h hL hk
  go_enter Tryz.func35,Tryz.ntmps35
  go_wp2_with fail
  go_ret2
  exact ⟨rfl,HB.out⟩
 ·have e1 : ((L : Int) == 1) = false:=by rw [beq_eq_false_iff_ne]; omega
  clear ht ht1 hB1 h hL
  go_enter Tryz.func35,Tryz.ntmps35
  go_wp2_with fail
  go_ret2
  exact ⟨rfl,HB.out⟩
theorem named_mixed (p x N : Nat) (b : Bool) (nad tad : Option Addr) (ncap tcap : Nat) (ns : List ByteArray) (t : K) (w : World) (hn : Sts w (.slice nad N ncap) ns) (ht : Ks w (.slice tad 1 tcap) [t]) (hk : t.kind = 1) (h : Wo.has ns t.text = false) :
  Calls Tryz.prog 35 #[questV p (.slice nad N ncap) (.slice tad 1 tcap) x, .bool b] w fun e w' => e = .returned (.tuple #[.int .i64 0, .int .i64 120]) ∧ Below w.heap.size w w':=by
 have hB1 : Below w.heap.size w (w.alloc (.cells #[.pointer (some ⟨p,0,none⟩), .slice nad N ncap, .slice tad 1 tcap, .int .i64 (x : Int)] 86)):=(Below.refl _ w).alloc (Nat.le_refl _) _
 have HB:=Lib.hid hB1
 obtain ⟨g,o,rfl, -, -, -,hg,hc⟩:=(ht.below hB1).cells (by simp)
 obtain ⟨d0,d1, -⟩:=hc 0 t rfl
 rw [Nat.zero_mul,Nat.add_zero] at d0 d1
 have e1 : (t.kind == 1) = true:=by simpa using hk
 have hi : idxV ns t.text = -1:=by unfold idxV; rw [h]; rfl
 have q1 : (w.alloc (.cells #[.pointer (some ⟨p,0,none⟩), .slice nad N ncap, .slice (some ⟨g,o,none⟩) 1 tcap, .int .i64 (x : Int)] 86)).cell? ⟨w.heap.size,1,none⟩ = some (.slice nad N ncap):=(Lib.cell_of_heap (heap_alloc_new w _) 1).trans rfl
 have q2 : (w.alloc (.cells #[.pointer (some ⟨p,0,none⟩), .slice nad N ncap, .slice (some ⟨g,o,none⟩) 1 tcap, .int .i64 (x : Int)] 86)).cell? ⟨w.heap.size,2,none⟩ = some (.slice (some ⟨g,o,none⟩) 1 tcap):=(Lib.cell_of_heap (heap_alloc_new w _) 2).trans rfl
 have KI:=Lib.hid (index_str_any (.slice nad N ncap) ns t.text (w.alloc (.cells #[.pointer (some ⟨p,0,none⟩), .slice nad N ncap, .slice (some ⟨g,o,none⟩) 1 tcap, .int .i64 (x : Int)] 86)).drew ((hn.below hB1).below (Below.refl _ _).drew))
 rw [hi] at KI
 unfold questV
 obtain ⟨kd,tx,tf,fr,en,bl⟩:=t
 dsimp only at d0 d1 e1 KI hk
 subst hk
 clear hc hn ht hB1 h hi e1
 go_enter Tryz.func35,Tryz.ntmps35
 go_wp2_with fail
 generalize (w.alloc (.cells #[.pointer (some ⟨p,0,none⟩), .slice nad N ncap, .slice (some ⟨g,o,none⟩) 1 tcap, .int .i64 (x : Int)] 86)) = V at KI HB q1 q2 d0 d1 ⊢
 generalize w.heap.size = n0 at q1 q2 ⊢
 go_still_tail 7,(by kernel_rfl)
 change wpList _ _ _ _ _ V.drew
 go_wp2_with fail
 refine KI.out.mono ?_
 rintro e w2 ⟨rfl,rfl⟩
 go_wp2_with fail
 go_ret2
 exact ⟨rfl,HB.out.drew⟩
theorem named_yes (B p m v x : Nat) (b : Bool) (sv : Value) (ds : List Bd.Dec) (nad tad : Option Addr) (ncap tcap N : Nat) (ns : List ByteArray) (t : K) (A : Pm.Ss) (w : World) (hA : Ar w B p m sv v ds) (hx : Nd v ds x A)
  (hn : Sts w (.slice nad N ncap) ns) (ht : Ks w (.slice tad 1 tcap) [t]) (hv : v = ns.length) (hk : t.kind = 1) (h : Wo.has ns t.text = true) (hfew : ds.length + 1020 ≤ 100000000) :
  Calls Tryz.prog 35 #[questV p (.slice nad N ncap) (.slice tad 1 tcap) x, .bool b] w fun e w' => ∃ n ds' sv',Nd v ds' n (fun s => A s && (s.testBit (Wo.idx ns t.text) == b)) ∧ Keep ds ds' ∧ ds'.length ≤ ds.length + 765 ∧ e = .returned (.tuple #[.int .i64 ((n : Nat) : Int), .int .i64 0]) ∧ Ar w' B p m sv' v ds' ∧ Bdd.Fr p m sv w sv' w':=by
 have hB1 : Below w.heap.size w (w.alloc (.cells #[.pointer (some ⟨p,0,none⟩), .slice nad N ncap, .slice tad 1 tcap, .int .i64 (x : Int)] 86)):=(Below.refl _ w).alloc (Nat.le_refl _) _
 obtain ⟨g,o,rfl, -, -, -,hg,hc⟩:=(ht.below hB1).cells (by simp)
 obtain ⟨d0,d1, -⟩:=hc 0 t rfl
 rw [Nat.zero_mul,Nat.add_zero] at d0 d1
 have e1 : (t.kind == 1) = true:=by simpa using hk
 obtain ⟨i,hi0⟩ : ∃ i,i = Wo.idx ns t.text:=⟨_,rfl⟩
 have hi : idxV ns t.text = (i : Int):=by unfold idxV; rw [h,hi0]; rfl
 have hil : i < v:=by rw [hi0,hv]; exact Wo.idx_lt ((Wo.has_iff _ _).1 h)
 have q1 : (w.alloc (.cells #[.pointer (some ⟨p,0,none⟩), .slice nad N ncap, .slice (some ⟨g,o,none⟩) 1 tcap, .int .i64 (x : Int)] 86)).cell? ⟨w.heap.size,1,none⟩ = some (.slice nad N ncap):=(Lib.cell_of_heap (heap_alloc_new w _) 1).trans rfl
 have q2 : (w.alloc (.cells #[.pointer (some ⟨p,0,none⟩), .slice nad N ncap, .slice (some ⟨g,o,none⟩) 1 tcap, .int .i64 (x : Int)] 86)).cell? ⟨w.heap.size,2,none⟩ = some (.slice (some ⟨g,o,none⟩) 1 tcap):=(Lib.cell_of_heap (heap_alloc_new w _) 2).trans rfl
 have KI:=Lib.hid (index_str_any (.slice nad N ncap) ns t.text (w.alloc (.cells #[.pointer (some ⟨p,0,none⟩), .slice nad N ncap, .slice (some ⟨g,o,none⟩) 1 tcap, .int .i64 (x : Int)] 86)).drew ((hn.below hB1).below (Below.refl _ _).drew))
 rw [hi] at KI
 rw [← hi0]
 have hbx:=heap_alloc_new w (.cells #[.pointer (some ⟨p,0,none⟩), .slice nad N ncap, .slice (some ⟨g,o,none⟩) 1 tcap, .int .i64 (x : Int)] 86)
 have hpl : p < w.heap.size:=Bdd.lt_of_get hA.blk
 have hml : m < w.heap.size:=Bdd.lt_of_get hA.map
 have hsl : ∀ k,sv.ownBlock = some k → k < w.heap.size:=fun k e => (hA.row.lt k e).2
 have HKEEP:=Lib.hid (fun (W' : World) (sv' : Value) (F : Bdd.Fr p m sv (w.alloc (.cells #[.pointer (some ⟨p,0,none⟩), .slice nad N ncap, .slice (some ⟨g,o,none⟩) 1 tcap, .int .i64 (x : Int)] 86)) sv' W') => show W'.heap[w.heap.size]? = _ from (F.blk w.heap.size (lt_of_heap hbx) (by omega) (by omega) (fun e => by have:=hsl _ e; omega)).trans hbx)
 have KV:=Lib.hid (Bdd.varN (hA.below hB1).drew i hil (by omega))
 have HF0:=Lib.hid (Bdd.Fr.of_below hB1.drew p m sv)
 have HF1:=Lib.hid (Bdd.Fr.of_below (Below.refl (w.alloc (.cells #[.pointer (some ⟨p,0,none⟩), .slice nad N ncap, .slice (some ⟨g,o,none⟩) 1 tcap, .int .i64 (x : Int)] 86)).heap.size (w.alloc (.cells #[.pointer (some ⟨p,0,none⟩), .slice nad N ncap, .slice (some ⟨g,o,none⟩) 1 tcap, .int .i64 (x : Int)] 86))).drew p m sv)
 have HX:=Lib.hid hx
 have HFW:=Lib.hid hfew
 have z0 : (0 : Int) ≤ i:=by omega
 unfold questV
 obtain ⟨kd,tx,tf,fr,en,bl⟩:=t
 dsimp only at d0 d1 e1 KI hk
 subst hk
 clear hc hn ht hB1 h hi e1 hi0 hbx hpl hml hsl hA hx hfew hv hil
 go_enter Tryz.func35,Tryz.ntmps35
 show Code.wp Tryz.prog (secs 0 namedBody) _ _ _
 refine wp_sec 0 namedBody rfl ?_
 conv => arg 2; whnf
 go_wp2_with fail
 refine wp_sec 1 namedBody rfl ?_
 conv => arg 2; whnf
 go_wp2_with fail
 refine wp_sec 2 namedBody rfl ?_
 conv => arg 2; whnf
 generalize hVe : (w.alloc (.cells #[.pointer (some ⟨p,0,none⟩), .slice nad N ncap, .slice (some ⟨g,o,none⟩) 1 tcap, .int .i64 (x : Int)] 86)) = V at KI HF0 HF1 KV HKEEP q1 q2 d0 d1 ⊢
 generalize hn0 : w.heap.size = n0 at q1 q2 HKEEP ⊢
 have HN0:=Lib.hid hn0
 clear hVe hn0
 go_still_tail 7,(by kernel_rfl)
 change wpList _ _ _ _ _ V.drew
 go_wp2_with fail
 refine KI.out.mono ?_
 rintro e w2 ⟨rfl,rfl⟩
 go_wp2_with fail
 refine wp_sec 3 namedBody rfl ?_
 conv => arg 2; whnf
 go_wp2_with fail
 have hw0:=HKEEP.out _ sv HF1.out
 have g0 : V.drew.cell? ⟨n0,0,none⟩ = some (.pointer (some ⟨p,0,none⟩)):=(Lib.cell_of_heap hw0 0).trans rfl
 generalize V.drew = V1 at HF0 HF1 KV g0 ⊢
 clear hw0 d0 d1 q1 q2
 refine wp_sec 4 namedBody rfl ?_
 conv => arg 2; whnf
 go_wp2_with fail
 refine KV.out.mono ?_
 rintro e w3 ⟨r3,ds3,sv3,hN3,hk3,hl3,rfl,hA3,hF3⟩
 have hF13:=HF1.out.trans hF3
 have hb3:=HKEEP.out _ sv3 hF13
 have g0 : w3.cell? ⟨n0,0,none⟩ = some (.pointer (some ⟨p,0,none⟩)):=(Lib.cell_of_heap hb3 0).trans rfl
 have g3 : w3.cell? ⟨n0,3,none⟩ = some (.int .i64 (x : Int)):=(Lib.cell_of_heap hb3 3).trans rfl
 have HA3:=Lib.hid hA3
 have HN3:=Lib.hid hN3
 have HK3:=Lib.hid hk3
 have HL3:=Lib.hid hl3
 have HF3:=Lib.hid (HF0.out.trans hF3)
 have HF13:=Lib.hid hF13
 clear hA3 hN3 hk3 hl3 hF3 hb3 hF13
 cases b with
 | true =>
  have KA:=Lib.hid (Bdd.andN HA3.out (HX.out.keep HK3.out) HN3.out (by have:=HL3.out; have:=HFW.out; omega))
  go_wp2_with fail
  refine wp_sec 5 namedBody rfl ?_
  conv => arg 2; whnf
  go_wp2_with fail
  refine wp_sec 6 namedBody rfl ?_
  conv => arg 2; whnf
  go_wp2_with fail
  refine KA.out.mono ?_
  rintro e w4 ⟨r4,ds4,sv4,hN4,hk4,hl4,rfl,hA4,hF4⟩
  have hfin : ∃ n ds' sv',Nd v ds' n (fun s => A s && (s.testBit i == true)) ∧ Keep ds ds' ∧ ds'.length ≤ ds.length + 765 ∧ (Ending.returned (.tuple #[.int .i64 ((r4 : Nat) : Int), .int .i64 0])) = .returned (.tuple #[.int .i64 ((n : Nat) : Int), .int .i64 0]) ∧ Ar w4 B p m sv' v ds' ∧ Bdd.Fr p m sv w sv' w4 :=
   ⟨r4,ds4,sv4,hN4.congr fun s hs => by simp,HK3.out.trans hk4,by have:=HL3.out; omega,rfl,hA4,HF3.out.trans hF4⟩
  have HFin:=Lib.hid hfin
  clear hN4 hk4 hl4 hA4 hF4 hfin
  go_wp2_with fail
  conv => arg 2; whnf
  go_wp2_with fail
  go_ret2
  exact HFin.out
 | false =>
  have KT:=Lib.hid (Bdd.notN HA3.out HN3.out (by have:=HL3.out; have:=HFW.out; omega))
  go_wp2_with fail
  refine wp_sec 5 namedBody rfl ?_
  conv => arg 2; whnf
  go_wp2_with fail
  refine KT.out.mono ?_
  rintro e w4 ⟨r4,ds4,sv4,hN4,hk4,hl4,rfl,hA4,hF4⟩
  have hF14:=HF13.out.trans hF4
  have hb4:=HKEEP.out _ sv4 hF14
  have g0 : w4.cell? ⟨n0,0,none⟩ = some (.pointer (some ⟨p,0,none⟩)):=(Lib.cell_of_heap hb4 0).trans rfl
  have g3 : w4.cell? ⟨n0,3,none⟩ = some (.int .i64 (x : Int)):=(Lib.cell_of_heap hb4 3).trans rfl
  have KA:=Lib.hid (Bdd.andN hA4 ((HX.out.keep HK3.out).keep hk4) hN4 (by have:=HL3.out; have:=HFW.out; omega))
  have HK4:=Lib.hid (HK3.out.trans hk4)
  have HL4:=Lib.hid hl4
  have HF4:=Lib.hid (HF3.out.trans hF4)
  clear hN4 hk4 hl4 hA4 hF4 hF14 hb4
  go_wp2_with fail
  refine wp_sec 6 namedBody rfl ?_
  conv => arg 2; whnf
  go_wp2_with fail
  refine KA.out.mono ?_
  rintro e w5 ⟨r5,ds5,sv5,hN5,hk5,hl5,rfl,hA5,hF5⟩
  have hfin : ∃ n ds' sv',Nd v ds' n (fun s => A s && (s.testBit i == false)) ∧ Keep ds ds' ∧ ds'.length ≤ ds.length + 765 ∧ (Ending.returned (.tuple #[.int .i64 ((r5 : Nat) : Int), .int .i64 0])) = .returned (.tuple #[.int .i64 ((n : Nat) : Int), .int .i64 0]) ∧ Ar w5 B p m sv' v ds' ∧ Bdd.Fr p m sv w sv' w5 :=
   ⟨r5,ds5,sv5,hN5.congr fun s hs => by simp,HK4.out.trans hk5,by have:=HL3.out; have:=HL4.out; omega,rfl,hA5,HF4.out.trans hF5⟩
  have HFin:=Lib.hid hfin
  clear hN5 hk5 hl5 hA5 hF5 hfin
  go_wp2_with fail
  conv => arg 2; whnf
  go_wp2_with fail
  go_ret2
  exact HFin.out
theorem named_any (B p m v x : Nat) (b : Bool) (sv : Value) (ds : List Bd.Dec) (nv tv : Value) (ns : List ByteArray) (l : List K) (A : Pm.Ss) (w : World) (hA : Ar w B p m sv v ds) (hx : Nd v ds x A)
  (hn : Sts w nv ns) (ht : Ks w tv l) (hv : v = ns.length) (hfew : ds.length + (510 * 2 ^ v + 1020) ≤ 100000000) :
  Calls Tryz.prog 35 #[questV p nv tv x, .bool b] w (CondPost w B p m sv v ds (Pm.named ns l b A)):=by
 obtain ⟨nad,ncap,rfl,nc1,nc2, -⟩:=id hn
 obtain ⟨tad,tcap,rfl,tc1,tc2, -⟩:=id ht
 have h1 : 0 < 2 ^ v:=Nat.two_pow_pos v
 cases hno : Pm.nameOf l with
 | none =>
  rw [Pm.named_none hno]
  refine (named_no p x ns.length l.length b nad tad ncap tcap l w rfl ht hno).mono ?_
  rintro e w' ⟨rfl,hB⟩
  exact ⟨rfl,by decide,hB⟩
 | some y =>
  obtain ⟨t,rfl,hk,rfl⟩ : ∃ t,l = [t] ∧ t.kind = 1 ∧ t.text = y:=by
   unfold Pm.nameOf at hno
   split at hno
   ·rename_i t
    split at hno
    ·rename_i hk
     injection hno with hno
     exact ⟨t,rfl,hk,hno⟩
    ·cases hno
   ·cases hno
  cases hh : Wo.has ns t.text with
  | false =>
   rw [Pm.named_out hno hh]
   refine (named_mixed p x ns.length b nad tad ncap tcap ns t w hn ht hk hh).mono ?_
   rintro e w' ⟨rfl,hB⟩
   exact ⟨rfl,by decide,hB⟩
  | true =>
   rw [Pm.named_in hno hh]
   refine (named_yes B p m v x b sv ds nad tad ncap tcap ns.length ns t A w hA hx hn ht hv hk hh (by omega)).mono ?_
   rintro e w' ⟨n,ds',sv',q1,q2,q3,q4,q5,q6⟩
   exact ⟨n,ds',sv',q1,q2,by omega,q4,q5,q6⟩
end
section
open Go.RowKit Go.Shelf
open Bdd (Ar Nd Keep TellsN)
namespace Pm
theorem cond_eq (ns : List ByteArray) (k : Int) (l : List K) (A : Ss) : cond ns k l A =
  if k < 2 ∨ 6 < k then .error 1 else if noSet ns.length A then .ok fun _ => false else if k = 6 then .ok A else if k = 3 then named ns l true A else if k = 4 then named ns l false A else valued ns l A:=by
 unfold cond
 split
 ·rfl
 ·split
  ·rfl
  ·split
   ·rfl
   ·by_cases h3 : k = 3
    ·subst h3
     rw [if_pos (.inl rfl),if_pos rfl]
     unfold named
     cases nameOf l <;> rfl
    ·by_cases h4 : k = 4
     ·subst h4
      rw [if_pos (.inr rfl),if_neg (by decide),if_pos rfl]
      unfold named
      cases nameOf l <;> rfl
     ·rw [if_neg (by omega),if_neg h3,if_neg h4]
      rfl
theorem noSet_iff {v : Nat} {A : Ss} : noSet v A = true ↔ ∀ s,s < 2 ^ v → A s = false:=by
 unfold noSet
 rw [List.all_eq_true]
 constructor
 ·intro h s hs
  have:=h s (List.mem_range.2 hs)
  simpa using this
 ·intro h s hs
  rw [h s (List.mem_range.1 hs)]
  rfl
end Pm
theorem pbegins_any (k : Int) (w : World) : Calls Tryz.prog 34 #[.int .i64 k] w fun e w' => e = .returned (.bool (decide (2 ≤ k ∧ k ≤ 6))) ∧ w = w':=by
 by_cases h : 2 ≤ k ∧ k ≤ 6
 ·rw [decide_eq_true h]
  have hc : k = 2 ∨ k = 3 ∨ k = 4 ∨ k = 5 ∨ k = 6:=by omega
  rcases hc with rfl | rfl | rfl | rfl | rfl <;> (go_enter Tryz.func34,Tryz.ntmps34; go_wp2_with fail; go_ret; exact ⟨rfl,rfl⟩)
 ·rw [decide_eq_false h]
  have h2 : (k == 2) = false:=by simp; omega
  have h3 : (k == 3) = false:=by simp; omega
  have h4 : (k == 4) = false:=by simp; omega
  have h5 : (k == 5) = false:=by simp; omega
  have h6 : (k == 6) = false:=by simp; omega
  clear h
  go_enter Tryz.func34,Tryz.ntmps34
  go_wp2_with fail
  go_ret
  exact ⟨rfl,rfl⟩
theorem CondPost.from {w W w' : World} {B p m v : Nat} {sv : Value} {ds : List Bd.Dec} {r : Except Int Pm.Ss} {e : Ending} (hB : Below w.heap.size w W) (h : CondPost W B p m sv v ds r e w') : CondPost w B p m sv v ds r e w':=by
 cases r with
 | error k => exact ⟨h.1,h.2.1,Below.then hB h.2.2⟩
 | ok Q =>
  obtain ⟨n,ds',sv',h1,h2,h3,h4,h5,h6⟩:=h
  exact ⟨n,ds',sv',h1,h2,h3,h4,h5,(Bdd.Fr.of_below hB _ _ _).trans h6⟩
theorem CondPost.form {w w' : World} {B p m v : Nat} {sv : Value} {ds : List Bd.Dec} {r : Except Int Pm.Ss} {e : Ending} (h : CondPost w B p m sv v ds r e w') : ∃ a b : Int,e = .returned (.tuple #[.int .i64 a, .int .i64 b]):=by
 cases r with
 | error k => exact ⟨_,_,h.1⟩
 | ok Q =>
  obtain ⟨n,ds',sv',h1,h2,h3,h4,h5,h6⟩:=h
  exact ⟨_,_,h4⟩
def lineV (x : Ln) (tv : Value) : Value:=.agg #[.int .i64 x.kind, .int .i64 x.first, .int .i64 x.n,tv]
noncomputable def condBody : Code:=Tryz.f16.body.getD .skip
theorem cond_any (B p m v x : Nat) (sv : Value) (ds : List Bd.Dec) (nv tv : Value) (ns : List ByteArray) (ln : Ln) (A : Pm.Ss) (w : World) (hA : Ar w B p m sv v ds) (hx : Nd v ds x A)
  (hn : Sts w nv ns) (ht : Ks w tv ln.toks) (hG : Gv w) (hN : NmL ns) (hv : v = ns.length) (hT : Tb ln.toks) (hl : ln.toks.length ≤ 1000) (hfew : ds.length + (510 * 2 ^ v + 1020) ≤ 100000000) :
  Calls Tryz.prog 16 #[.pointer (some ⟨p,0,none⟩),nv,lineV ln tv, .int .i64 (x : Int)] w (CondPost w B p m sv v ds (Pm.cond ns ln.kind ln.toks A)):=by
 obtain ⟨nad,ncap,rfl,nc1,nc2, -⟩:=id hn
 obtain ⟨tad,tcap,rfl,tc1,tc2, -⟩:=id ht
 obtain ⟨kd,fi,nn,l⟩:=ln
 unfold lineV
 dsimp only at ht hT hl tc1 ⊢
 rw [Pm.cond_eq]
 obtain ⟨R,hR⟩ : ∃ R,R = (if kd < 2 ∨ 6 < kd then (.error 1 : Except Int Pm.Ss) else if Pm.noSet ns.length A then .ok fun _ => false else if kd = 6 then .ok A else if kd = 3 then Pm.named ns l true A else if kd = 4 then Pm.named ns l false A else Pm.valued ns l A):=⟨_,rfl⟩
 rw [← hR]
 obtain ⟨W,hW⟩ : ∃ W,W = w.alloc (.cells #[.int .i64 kd, .int .i64 (fi : Int), .int .i64 (nn : Int), .slice tad l.length tcap] 46):=⟨_,rfl⟩
 have hB1 : Below w.heap.size w W:=by rw [hW]; exact (Below.refl _ w).alloc (Nat.le_refl _) _
 have hb1 : W.heap[w.heap.size]? = some (.cells #[.int .i64 kd, .int .i64 (fi : Int), .int .i64 (nn : Int), .slice tad l.length tcap] 46 (0,0)):=by rw [hW]; exact heap_alloc_new w _
 have hws : W.heap.size = w.heap.size + 1:=by rw [hW]; simp
 have KV:=Lib.hid (Bdd.vars_any (hA.below hB1))
 have KB:=Lib.hid (pbegins_any kd W)
 obtain ⟨N,hNN⟩ : ∃ N,N = ns.length:=⟨_,rfl⟩
 obtain ⟨L,hLL⟩ : ∃ L,L = l.length:=⟨_,rfl⟩
 have hx0:=hx.zero hA.wf
 rw [← Pm.noSet_iff,hv] at hx0
 rw [← hNN] at hR hx0 nc1 hn ⊢
 have c0 : W.cell? ⟨w.heap.size,0,none⟩ = some (.int .i64 kd):=(Lib.cell_of_heap hb1 0).trans rfl
 have c3 : W.cell? ⟨w.heap.size,3,none⟩ = some (.slice tad l.length tcap):=(Lib.cell_of_heap hb1 3).trans rfl
 rw [← hLL] at c3 ht tc1 hl hb1 hW ⊢
 have HL:=Lib.hid (And.intro (hA.below hB1) (And.intro hx (And.intro (hn.below hB1) (And.intro (ht.below hB1) (hG.later hB1)))))
 have HLL:=Lib.hid hLL
 have HNN:=Lib.hid hNN
 have HN:=Lib.hid hN
 have HT:=Lib.hid hT
 have HF:=Lib.hid hfew
 have HR:=Lib.hid hR
 have HX0:=Lib.hid hx0
 have HV:=Lib.hid hv
 have HW:=Lib.hid hW
 have HB1:=Lib.hid hB1
 have HA0:=Lib.hid hA
 have HX:=Lib.hid hx
 have HWS:=Lib.hid hws
 have hvN : v = N:=by rw [hv,hNN]
 subst hvN
 clear hA hx hn ht hG hN hT hfew hR hx0 hv hB1 hb1 hNN hLL hws
 go_enter Tryz.func16,Tryz.ntmps16
 show Code.wp Tryz.prog (secs 0 condBody) _ _ _
 refine wp_sec 0 condBody rfl ?_
 conv => arg 2; whnf
 go_wp2_with fail
 rw [← hW]
 clear hW
 refine wp_sec 1 condBody rfl ?_
 conv => arg 2; whnf
 go_wp2_with fail
 refine KV.out.mono ?_
 rintro e w2 ⟨rfl,rfl⟩
 go_wp2_with fail
 refine KB.out.mono ?_
 rintro e w2 ⟨rfl,rfl⟩
 by_cases hk : kd < 2 ∨ 6 < kd
 ·have hr:=HR.out
  rw [if_pos hk] at hr
  subst hr
  rw [decide_eq_false (by omega)]
  clear HR
  go_wp2_with fail
  go_ret2
  exact ⟨rfl,by decide,HB1.out⟩
 ·rw [decide_eq_true (by omega)]
  have hr:=HR.out
  rw [if_neg hk] at hr
  have HR:=Lib.hid hr
  have HK:=Lib.hid hk
  clear hr hk
  go_wp2_with fail
  refine wp_sec 2 condBody rfl ?_
  conv => arg 2; whnf
  by_cases h0 : x = 0
  ·have hr:=HR.out
   rw [if_pos (HX0.out.1 h0)] at hr
   subst hr
   subst h0
   clear HR
   go_wp2_with fail
   go_ret2
   exact ⟨0,ds,sv,(Nd.never _ ds),Keep.refl _,by omega,rfl,HA0.out.below HB1.out,Bdd.Fr.of_below HB1.out _ _ _⟩
  ·have hr:=HR.out
   rw [if_neg (fun e => h0 (HX0.out.2 e))] at hr
   have HR:=Lib.hid hr
   have e0 : ((x : Int) == 0) = false:=by simpa using h0
   clear hr h0
   go_wp2_with fail
   refine wp_sec 3 condBody rfl ?_
   conv => arg 2; whnf
   go_wp2_with fail
   obtain ⟨W2,hW2⟩ : ∃ W2,W2 = W.alloc (.cells #[.pointer (some ⟨p,0,none⟩), .slice nad v ncap, .slice tad L tcap, .int .i64 (x : Int)] 86):=⟨_,rfl⟩
   have hB2 : Below W.heap.size W W2:=by rw [hW2]; exact (Below.refl _ W).alloc (Nat.le_refl _) _
   have hq : W2.heap[W.heap.size]? = some (.cells #[.pointer (some ⟨p,0,none⟩), .slice nad v ncap, .slice tad L tcap, .int .i64 (x : Int)] 86 (0,0)):=by rw [hW2]; exact heap_alloc_new W _
   have g0 : W2.cell? ⟨W.heap.size,0,none⟩ = some (.pointer (some ⟨p,0,none⟩)):=(Lib.cell_of_heap hq 0).trans rfl
   have g1 : W2.cell? ⟨W.heap.size,1,none⟩ = some (.slice nad v ncap):=(Lib.cell_of_heap hq 1).trans rfl
   have g2 : W2.cell? ⟨W.heap.size,2,none⟩ = some (.slice tad L tcap):=(Lib.cell_of_heap hq 2).trans rfl
   have g3 : W2.cell? ⟨W.heap.size,3,none⟩ = some (.int .i64 (x : Int)):=(Lib.cell_of_heap hq 3).trans rfl
   have c0 : W2.cell? ⟨w.heap.size,0,none⟩ = some (.int .i64 kd):=(hB2.cell (p:=⟨w.heap.size,0,none⟩) (by rw [HWS.out]; exact Nat.lt_succ_self _)).trans c0
   have HB2:=Lib.hid (Below.then HB1.out hB2)
   obtain ⟨q1,q2,q3,q4,q5⟩:=HL.out
   have HQ:=Lib.hid (And.intro (q1.below hB2) (And.intro (q3.below hB2) (And.intro (q4.below hB2) (q5.later hB2))))
   rw [← hW2]
   clear hW2 hB2 hq q1 q2 q3 q4 q5 c3
   generalize W.heap.size = n1 at *
   refine wp_sec 4 condBody rfl ?_
   conv => arg 2; whnf
   by_cases h6 : kd = 6
   ·have hr:=HR.out
    rw [if_pos h6] at hr
    subst hr
    subst h6
    clear HR
    go_wp2_with fail
    go_ret2
    exact ⟨x,ds,sv,HX.out,Keep.refl _,by omega,rfl,HA0.out.below HB2.out,Bdd.Fr.of_below HB2.out _ _ _⟩
   ·have hr:=HR.out
    rw [if_neg h6] at hr
    have e6 : (kd == 6) = false:=by simpa using h6
    by_cases h3 : kd = 3
    ·rw [if_pos h3] at hr
     subst hr
     subst h3
     have KC:=Lib.hid (named_any B p m v x true sv ds (.slice nad v ncap) (.slice tad L tcap) ns l A W2 HQ.out.1 HX.out HQ.out.2.1 HQ.out.2.2.1 HV.out HF.out)
     unfold questV at KC
     clear HR h6
     go_wp2_with fail
     refine KC.out.mono ?_
     intro e w5 hp
     obtain ⟨a,b,rfl⟩:=hp.form
     have HP:=Lib.hid (hp.from HB2.out)
     clear hp
     go_wp2_with fail
     go_ret2
     exact HP.out
    ·rw [if_neg h3] at hr
     have e3 : (kd == 3) = false:=by simpa using h3
     by_cases h4 : kd = 4
     ·rw [if_pos h4] at hr
      subst hr
      subst h4
      have KC:=Lib.hid (named_any B p m v x false sv ds (.slice nad v ncap) (.slice tad L tcap) ns l A W2 HQ.out.1 HX.out HQ.out.2.1 HQ.out.2.2.1 HV.out HF.out)
      unfold questV at KC
      clear HR h6 h3
      go_wp2_with fail
      refine KC.out.mono ?_
      intro e w5 hp
      obtain ⟨a,b,rfl⟩:=hp.form
      have HP:=Lib.hid (hp.from HB2.out)
      clear hp
      go_wp2_with fail
      go_ret2
      exact HP.out
     ·rw [if_neg h4] at hr
      have e4 : (kd == 4) = false:=by simpa using h4
      subst hr
      have KC:=Lib.hid (valued_any B p m v x sv ds (.slice nad v ncap) (.slice tad L tcap) ns l A W2 HQ.out.1 HX.out HQ.out.2.1 HQ.out.2.2.1 HQ.out.2.2.2 HN.out HV.out HT.out (by rw [← HLL.out]; exact hl) HF.out)
      unfold questV at KC
      clear HR h6 h3 h4
      go_wp2_with fail
      refine wp_sec 5 condBody rfl ?_
      conv => arg 2; whnf
      go_wp2_with fail
      refine KC.out.mono ?_
      intro e w5 hp
      obtain ⟨a,b,rfl⟩:=hp.form
      have HP:=Lib.hid (hp.from HB2.out)
      clear hp
      go_wp2_with fail
      conv => arg 2; whnf
      go_wp2_with fail
      go_ret2
      exact HP.out
end
namespace Cnd
open Go.RowKit
open Ct Ct.T
theorem lt_of_cell {w : World} {a : Addr} {v : Value} (h : w.cell? a = some v) : a.block < w.heap.size:=by
 unfold World.cell? at h
 rcases Nat.lt_or_ge a.block w.heap.size with hlt | hge
 ·exact hlt
 ·rw [Array.getElem?_eq_none hge] at h; cases h
theorem add_none (b o j : Nat) : (⟨b,o,none⟩ : Addr).add j = ⟨b,o + j,none⟩:=by
 unfold Addr.add; split <;> simp_all
theorem Below.then {w w1 w2 : World} (h : Below w.heap.size w w1) (k : Below w1.heap.size w1 w2) : Below w.heap.size w w2:=h.trans (k.mono h.size)
theorem row_below {W W' : World} {base e sz n : Nat} {v : Value} {cs : List Value} (h : W.ownsRow base e sz v n cs) (hb : Below W.heap.size W W') : W'.ownsRow base e sz v n cs:=by
 refine ⟨h.1,?_⟩
 rcases h.2 with h' | ⟨g,cap,cur,h',h1,h2,h3⟩
 ·exact .inl h'
 ·exact .inr ⟨g,cap,cur,h',h1,(hb.block g (Array.getElem?_eq_some_iff.1 h2).1).trans h2,h3⟩
theorem row_heap {W W' : World} {base e sz n : Nat} {v : Value} {cs : List Value} (h : W.ownsRow base e sz v n cs) (hb : ∀ k,v.ownBlock = some k → W'.heap[k]? = W.heap[k]?) : W'.ownsRow base e sz v n cs:=by
 refine ⟨h.1,?_⟩
 rcases h.2 with h' | ⟨g,cap,cur,h',h1,h2,h3⟩
 ·exact .inl h'
 ·exact .inr ⟨g,cap,cur,h',h1,(hb g (by rw [h']; rfl)).trans h2,h3⟩
def SlP (W : World) (ok : Nat → Prop) (v : Value) (n : Nat) (C : List Value → Prop) : Prop :=
 ∃ ad cap,v = .slice ad n cap ∧ n ≤ cap ∧ cap ≤ maxLen ∧ (0 < n → ∃ g o xs,ad = some ⟨g,o,none⟩ ∧ ok g ∧ g < W.heap.size ∧ (∀ j u,xs[j]? = some u → W.cell? ⟨g,o + j,none⟩ = some u) ∧ C xs)
theorem SlP.mono {W W' : World} {ok ok' : Nat → Prop} {v : Value} {n : Nat} {C C' : List Value → Prop} (h : SlP W ok v n C) (hk : ∀ g,ok g → g < W.heap.size → ok' g ∧ W'.heap[g]? = W.heap[g]?) (hC : ∀ xs,C xs → C' xs) : SlP W' ok' v n C':=by
 obtain ⟨ad,cap,rfl,h1,h2,h3⟩:=h
 refine ⟨ad,cap,rfl,h1,h2,fun hn => ?_⟩
 obtain ⟨g,o,xs,e,hg,hlt,hc,hx⟩:=h3 hn
 have hb:=(hk g hg hlt).2
 refine ⟨g,o,xs,e,(hk g hg hlt).1,?_,fun j u hj => (World.cell?_of_block (a:=⟨g,o + j,none⟩) hb).trans (hc j u hj),hC _ hx⟩
 rw [Array.getElem?_eq_getElem hlt] at hb
 exact (Array.getElem?_eq_some_iff.1 hb).1
def CT (W : World) (ok : Nat → Prop) : Bool → List Value → T → Prop
 | _,xs,nil => xs = []
 | true,xs,cons l e s r => ∃ v ys,xs = .int .i64 l :: .int .i64 e :: v :: ys ∧ SlP W ok v s.len (fun zs => CT W ok false zs s) ∧ CT W ok true ys r
 | false,xs,cons l _ s r => ∃ v ys,xs = .int .i64 l :: v :: ys ∧ SlP W ok v s.len (fun zs => CT W ok true zs s) ∧ CT W ok false ys r
def TS (W : World) (ok : Nat → Prop) (b : Bool) (v : Value) (t : T) : Prop:=SlP W ok v t.len (fun xs => CT W ok b xs t)
def wid : Bool → Nat
 | true => 3
 | false => 2
theorem CT.keep {W W' : World} {ok ok' : Nat → Prop} (hk : ∀ g,ok g → g < W.heap.size → ok' g ∧ W'.heap[g]? = W.heap[g]?) (t : T) : ∀ (b : Bool) (xs : List Value),CT W ok b xs t → CT W' ok' b xs t:=by
 induction t with
 | nil => intro b xs h; cases b <;> exact h
 | cons l e s r ihs ihr =>
  intro b xs h
  cases b with
  | true => obtain ⟨v,ys,rfl,h1,h2⟩:=h; exact ⟨v,ys,rfl,h1.mono hk (fun _ => ihs _ _),ihr _ _ h2⟩
  | false => obtain ⟨v,ys,rfl,h1,h2⟩:=h; exact ⟨v,ys,rfl,h1.mono hk (fun _ => ihs _ _),ihr _ _ h2⟩
theorem TS.keep {W W' : World} {ok ok' : Nat → Prop} {b : Bool} {v : Value} {t : T} (h : TS W ok b v t) (hk : ∀ g,ok g → g < W.heap.size → ok' g ∧ W'.heap[g]? = W.heap[g]?) : TS W' ok' b v t :=
 h.mono hk (fun _ => CT.keep hk t b _)
theorem TS.nil_at (W : World) (ok : Nat → Prop) (b : Bool) (ad : Option Addr) (cap : Nat) (h : cap ≤ maxLen) : TS W ok b (.slice ad 0 cap) nil:=⟨ad,cap,rfl,Nat.zero_le _,h,fun h => by cases h⟩
theorem CT.length {W : World} {ok : Nat → Prop} (t : T) : ∀ (b : Bool) (xs : List Value),CT W ok b xs t → xs.length = t.len * wid b:=by
 induction t with
 | nil => intro b xs h; cases b <;> (rw [show xs = [] from h]; rfl)
 | cons l e s r ihs ihr =>
  intro b xs h
  cases b with
  | true => obtain ⟨v,ys,rfl,h1,h2⟩:=h; have:=ihr _ _ h2; simp only [List.length_cons,this,len,wid]; omega
  | false => obtain ⟨v,ys,rfl,h1,h2⟩:=h; have:=ihr _ _ h2; simp only [List.length_cons,this,len,wid]; omega
theorem CT.app {W : World} {ok : Nat → Prop} (t u : T) : ∀ (b : Bool) (xs ys : List Value),CT W ok b xs t → CT W ok b ys u → CT W ok b (xs ++ ys) (t.app u):=by
 induction t with
 | nil => intro b xs ys h hu; cases b <;> (rw [show xs = [] from h]; exact hu)
 | cons l e s r ihs ihr =>
  intro b xs ys h hu
  cases b with
  | true => obtain ⟨v,zs,rfl,h1,h2⟩:=h; exact ⟨v,zs ++ ys,rfl,h1,ihr _ _ _ h2 hu⟩
  | false => obtain ⟨v,zs,rfl,h1,h2⟩:=h; exact ⟨v,zs ++ ys,rfl,h1,ihr _ _ _ h2 hu⟩
theorem CT.parts {W : World} {ok : Nat → Prop} (t u : T) : ∀ (b : Bool) (zs : List Value),CT W ok b zs (t.app u) → ∃ xs ys,zs = xs ++ ys ∧ CT W ok b xs t ∧ CT W ok b ys u:=by
 induction t with
 | nil => intro b zs h; exact ⟨[],zs,rfl,by cases b <;> rfl,h⟩
 | cons l e s r ihs ihr =>
  intro b zs h
  cases b with
  | true => obtain ⟨v,ys,rfl,h1,h2⟩:=h; obtain ⟨a,c,rfl,h3,h4⟩:=ihr _ _ h2; exact ⟨_,c,rfl,⟨v,a,rfl,h1,h3⟩,h4⟩
  | false => obtain ⟨v,ys,rfl,h1,h2⟩:=h; obtain ⟨a,c,rfl,h3,h4⟩:=ihr _ _ h2; exact ⟨_,c,rfl,⟨v,a,rfl,h1,h3⟩,h4⟩
theorem CT.item1 {W : World} {ok : Nat → Prop} {l e : Nat} {s : T} {v : Value} (h : TS W ok false v s) : CT W ok true [.int .i64 l, .int .i64 e,v] (one l e s):=⟨v,[],rfl,h,rfl⟩
theorem CT.branch1 {W : World} {ok : Nat → Prop} {l e : Nat} {s : T} {v : Value} (h : TS W ok true v s) : CT W ok false [.int .i64 l,v] (one l e s):=⟨v,[],rfl,h,rfl⟩
theorem TS.of_row {W : World} {ok : Nat → Prop} {base e : Nat} {b : Bool} {v : Value} {t : T} {xs : List Value} (h : W.ownsRow base e (wid b) v t.len xs) (hC : CT W ok b xs t) (hok : ∀ k,v.ownBlock = some k → ok k) : TS W ok b v t:=by
 rcases id h.2 with ⟨h',h0⟩ | ⟨g,cap,cur,h',h1,h2,h3,h4,h5⟩
 ·subst h'
  rw [len_zero h0]
  exact TS.nil_at _ _ _ _ _ (Nat.zero_le _)
 ·subst h'
  refine ⟨_,cap,rfl,h3,h4,fun hn => ⟨g,0,xs,rfl,hok g rfl,(Array.getElem?_eq_some_iff.1 h2).1,fun j u hj => ?_,hC⟩⟩
  have:=h.cells (g:=g) rfl j u hj
  rwa [add_none] at this
theorem TS.form {W : World} {ok : Nat → Prop} {b : Bool} {v : Value} {t : T} (h : TS W ok b v t) : ∃ ad cap,v = .slice ad t.len cap ∧ t.len ≤ cap ∧ cap ≤ maxLen ∧ (0 < t.len → ∃ g o,ad = some ⟨g,o,none⟩ ∧ ok g ∧ g < W.heap.size):=by
 obtain ⟨ad,cap,rfl,h1,h2,h3⟩:=h
 exact ⟨ad,cap,rfl,h1,h2,fun hn => let ⟨g,o,_,e,hg,hlt,_⟩:=h3 hn; ⟨g,o,e,hg,hlt⟩⟩
def Tr (W : World) (v : Value) (t : T) : Prop:=TS W (· < W.heap.size) true v t
def nums (l : List Nat) : List Value:=l.map fun x : Nat => Value.int .i64 (x : Int)
def Lns (W : World) (v : Value) (ks : List Int) : Prop :=
 ∃ ad cap,v = .slice ad ks.length cap ∧ ks.length ≤ cap ∧ cap ≤ maxLen ∧ (0 < ks.length → ∃ g o,ad = some ⟨g,o,none⟩ ∧ g < W.heap.size ∧ ∀ i x,ks[i]? = some x → W.cell? ⟨g,o + i * 4,none⟩ = some (.int .i64 x) ∧
  ∃ (f n : Int) (ua : Option Addr) (ul uc : Nat),W.cell? ⟨g,o + i * 4 + 1,none⟩ = some (.int .i64 f) ∧ W.cell? ⟨g,o + i * 4 + 2,none⟩ = some (.int .i64 n) ∧ W.cell? ⟨g,o + i * 4 + 3,none⟩ = some (.slice ua ul uc))
theorem Lns.below {W W' : World} {v : Value} {l : List Int} (h : Lns W v l) (hb : Below W.heap.size W W') : Lns W' v l:=by
 obtain ⟨ad,cap,rfl,h1,h2,h3⟩:=h
 refine ⟨ad,cap,rfl,h1,h2,fun hn => ?_⟩
 obtain ⟨g,o,e,hg,hc⟩:=h3 hn
 refine ⟨g,o,e,Nat.lt_of_lt_of_le hg hb.size,fun i x hx => ?_⟩
 have k:=fun o : Nat => hb.cell (p:=⟨g,o,none⟩) hg
 obtain ⟨a,f,n,ua,ul,uc,b,c,d⟩:=hc i x hx
 exact ⟨(k _).trans a,f,n,ua,ul,uc,(k _).trans b,(k _).trans c,(k _).trans d⟩
theorem info_parts {t : TypeId} {z : Option Value} {s b : Nat} (h : (Tryz.prog.info? t).map (fun i => (i.zero,i.size,i.bytes)) = some (z,s,b)) : ∃ i,Tryz.prog.info? t = some i ∧ i.zero = z ∧ i.size = s ∧ i.bytes = b:=by
 cases hi : Tryz.prog.info? t with
 | none => rw [hi] at h; cases h
 | some i =>
  rw [hi] at h
  simp only [Option.map_some,Option.some.injEq,Prod.mk.injEq] at h
  exact ⟨i,rfl,h.1,h.2.1,h.2.2⟩
theorem info3 : (Tryz.prog.info? 3).map (fun i => (i.zero,i.size,i.bytes)) = some (some (.int .i64 0),1,8):=by kernel_rfl
theorem infoItem : (Tryz.prog.info? 124).map (fun i => (i.zero,i.size,i.bytes)) = some (some (.agg #[.int .i64 0, .int .i64 0, .slice none 0 0]),3,40):=by kernel_rfl
theorem infoBr : (Tryz.prog.info? 148).map (fun i => (i.zero,i.size,i.bytes)) = some (some (.agg #[.int .i64 0, .slice none 0 0]),2,32):=by kernel_rfl
theorem infoCond : (Tryz.prog.info? 126).map (fun i => (i.zero,i.size,i.bytes)) = some (some (.agg #[.int .i64 0, .int .i64 0, .slice none 0 0, .bool false]),4,48):=by kernel_rfl
end Cnd
namespace Cnd
open Go.RowKit
open Ct Ct.T
theorem begins_any (k : Int) (w : World) : Calls Tryz.prog 108 #[.int .i64 k] w fun e w' => e = .returned (.bool (Ct.begins k)) ∧ w' = w:=by
 have hc : (k == 2) = true ∨ ((k == 2) = false ∧ (k == 3) = true) ∨ ((k == 2) = false ∧ (k == 3) = false):=by
  cases k == 2 <;> cases k == 3 <;> simp
 rcases hc with h | ⟨h,h'⟩ | ⟨h,h'⟩
 all_goals
  go_enter Tryz.func108,Tryz.ntmps108
  go_wp2_with fail
  go_ret
  simp [Ct.begins, *]
theorem news4 (w : World) (a b c d : Value) (t : TypeId) : ∀ j u,[a,b,c,d][j]? = some u → (w.alloc (.cells #[a,b,c,d] t)).cell? ((⟨w.heap.size,0,none⟩ : Addr).add j) = some u:=by
 intro j u hj
 match j,hj with
 | 0,hj => simp at hj; subst hj; simp [Addr.add]
 | 1,hj => simp at hj; subst hj; simp [Addr.add]
 | 2,hj => simp at hj; subst hj; simp [Addr.add]
 | 3,hj => simp at hj; subst hj; simp [Addr.add]
theorem news3 (w : World) (a b c : Value) (t : TypeId) : ∀ j u,[a,b,c][j]? = some u → (w.alloc (.cells #[a,b,c] t)).cell? ((⟨w.heap.size,0,none⟩ : Addr).add j) = some u:=by
 intro j u hj
 match j,hj with
 | 0,hj => simp at hj; subst hj; simp [Addr.add]
 | 1,hj => simp at hj; subst hj; simp [Addr.add]
 | 2,hj => simp at hj; subst hj; simp [Addr.add]
theorem news2 (w : World) (a b : Value) (t : TypeId) : ∀ j u,[a,b][j]? = some u → (w.alloc (.cells #[a,b] t)).cell? ((⟨w.heap.size,0,none⟩ : Addr).add j) = some u:=by
 intro j u hj
 match j,hj with
 | 0,hj => simp at hj; subst hj; simp [Addr.add]
 | 1,hj => simp at hj; subst hj; simp [Addr.add]
end Cnd
end Go.Proofs.YthekfpgegiffoaaGreatDoor
