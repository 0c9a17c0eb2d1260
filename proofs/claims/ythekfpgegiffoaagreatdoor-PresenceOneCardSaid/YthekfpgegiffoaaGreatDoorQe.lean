/- What is proved: what comes of two operands by a sign, as the program works it out; a link, a chain; any expression that can be asked. (and what stands with it) -/
import Derived.Test.YthekfpgegiffoaaGreatDoorQd
set_option linter.unusedSimpArgs false
set_option linter.unusedVariables false
set_option maxHeartbeats 16000000
set_option maxRecDepth 100000
namespace Go.Proofs.YthekfpgegiffoaaGreatDoor
section
open Go.RowKit Go.Shelf
open Ie (E)
def Ie.cmpB (s : ByteArray) (a b : Int) : Bool :=
 if s = sEq then a == b else if s = sNe then a != b else if s = sLt then decide (a < b) else if s = sGt then decide (b < a) else if s = sLe then decide (a ≤ b) else decide (b ≤ a)
def Ie.shf (s : ByteArray) (a b : Int) : Int × Int:=if b < 0 ∨ 63 < b then (0,93) else if s = sShl then (w64 (a * 2 ^ b.toNat),0) else (a / 2 ^ b.toNat,0)
def Ie.dvd (s : ByteArray) (a b : Int) : Int × Int:=if b = 0 then (0,92) else if s = sQuo then (w64 (a.tdiv b),0) else (a.tmod b,0)
def Ie.cnt (s : ByteArray) (a b : Int) : Int :=
 if s = sBar then bits (· ||| ·) a b else if s = sHat then bits (· ^^^ ·) a b else if s = sAmp then bits (· &&& ·) a b else if s = sAdd then w64 (a + b) else if s = sSub then w64 (a - b) else w64 (a * b)
theorem compared_any (s : ByteArray) (a b : Int) (w : World) : Calls Tryz.prog 393 #[.string s, .int .i64 a, .int .i64 b] w fun e w' => e = .returned (.bool (Ie.cmpB s a b)) ∧ w' = w:=by
 by_cases h0 : s = Ie.sEq
 ·have e0 : (s.toList == [61,61]) = true:=lit_yes h0
  have G0:=Lib.hid h0
  clear h0
  go_enter Tryz.func393,Tryz.ntmps393
  go_wp2_with fail
  go_ret
  refine ⟨?_,rfl⟩
  unfold Ie.cmpB
  rw [if_pos G0.out]
  try rfl
 have e0 : (s.toList == [61,61]) = false:=lit_no h0
 have G0:=Lib.hid h0
 clear h0
 by_cases h1 : s = Ie.sNe
 ·have e1 : (s.toList == [33,61]) = true:=lit_yes h1
  have G1:=Lib.hid h1
  clear h1
  go_enter Tryz.func393,Tryz.ntmps393
  go_wp2_with fail
  go_ret
  refine ⟨?_,rfl⟩
  unfold Ie.cmpB
  rw [if_neg G0.out,if_pos G1.out]
  try rfl
 have e1 : (s.toList == [33,61]) = false:=lit_no h1
 have G1:=Lib.hid h1
 clear h1
 by_cases h2 : s = Ie.sLt
 ·have e2 : (s.toList == [60]) = true:=lit_yes h2
  have G2:=Lib.hid h2
  clear h2
  go_enter Tryz.func393,Tryz.ntmps393
  go_wp2_with fail
  go_ret
  refine ⟨?_,rfl⟩
  unfold Ie.cmpB
  rw [if_neg G0.out,if_neg G1.out,if_pos G2.out]
  try rfl
 have e2 : (s.toList == [60]) = false:=lit_no h2
 have G2:=Lib.hid h2
 clear h2
 by_cases h3 : s = Ie.sGt
 ·have e3 : (s.toList == [62]) = true:=lit_yes h3
  have G3:=Lib.hid h3
  clear h3
  go_enter Tryz.func393,Tryz.ntmps393
  go_wp2_with fail
  go_ret
  refine ⟨?_,rfl⟩
  unfold Ie.cmpB
  rw [if_neg G0.out,if_neg G1.out,if_neg G2.out,if_pos G3.out]
  try rfl
 have e3 : (s.toList == [62]) = false:=lit_no h3
 have G3:=Lib.hid h3
 clear h3
 by_cases h4 : s = Ie.sLe
 ·have e4 : (s.toList == [60,61]) = true:=lit_yes h4
  have G4:=Lib.hid h4
  clear h4
  go_enter Tryz.func393,Tryz.ntmps393
  go_wp2_with fail
  go_ret
  refine ⟨?_,rfl⟩
  unfold Ie.cmpB
  rw [if_neg G0.out,if_neg G1.out,if_neg G2.out,if_neg G3.out,if_pos G4.out]
  try rfl
 have e4 : (s.toList == [60,61]) = false:=lit_no h4
 have G4:=Lib.hid h4
 clear h4
 go_enter Tryz.func393,Tryz.ntmps393
 go_wp2_with fail
 go_ret
 refine ⟨?_,rfl⟩
 unfold Ie.cmpB
 rw [if_neg G0.out,if_neg G1.out,if_neg G2.out,if_neg G3.out,if_neg G4.out]
 try rfl
theorem counted_any (s : ByteArray) (a b : Int) (w : World) : Calls Tryz.prog 396 #[.string s, .int .i64 a, .int .i64 b] w fun e w' => e = .returned (.int .i64 (Ie.cnt s a b)) ∧ w' = w:=by
 by_cases h0 : s = Ie.sBar
 ·have e0 : (s.toList == [124]) = true:=lit_yes h0
  have G0:=Lib.hid h0
  clear h0
  go_enter Tryz.func396,Tryz.ntmps396
  go_wp2_with fail
  go_ret
  refine ⟨?_,rfl⟩
  unfold Ie.cnt
  rw [if_pos G0.out]
  skip
  try rfl
 have e0 : (s.toList == [124]) = false:=lit_no h0
 have G0:=Lib.hid h0
 clear h0
 by_cases h1 : s = Ie.sHat
 ·have e1 : (s.toList == [94]) = true:=lit_yes h1
  have G1:=Lib.hid h1
  clear h1
  go_enter Tryz.func396,Tryz.ntmps396
  go_wp2_with fail
  go_ret
  refine ⟨?_,rfl⟩
  unfold Ie.cnt
  rw [if_neg G0.out,if_pos G1.out]
  skip
  try rfl
 have e1 : (s.toList == [94]) = false:=lit_no h1
 have G1:=Lib.hid h1
 clear h1
 by_cases h2 : s = Ie.sAmp
 ·have e2 : (s.toList == [38]) = true:=lit_yes h2
  have G2:=Lib.hid h2
  clear h2
  go_enter Tryz.func396,Tryz.ntmps396
  go_wp2_with fail
  go_ret
  refine ⟨?_,rfl⟩
  unfold Ie.cnt
  rw [if_neg G0.out,if_neg G1.out,if_pos G2.out]
  skip
  try rfl
 have e2 : (s.toList == [38]) = false:=lit_no h2
 have G2:=Lib.hid h2
 clear h2
 by_cases h3 : s = Ie.sAdd
 ·have e3 : (s.toList == [43]) = true:=lit_yes h3
  have G3:=Lib.hid h3
  clear h3
  go_enter Tryz.func396,Tryz.ntmps396
  go_wp2_with fail
  go_ret
  refine ⟨?_,rfl⟩
  unfold Ie.cnt
  rw [if_neg G0.out,if_neg G1.out,if_neg G2.out,if_pos G3.out]
  try rw [← wrap64_w]
  try rfl
 have e3 : (s.toList == [43]) = false:=lit_no h3
 have G3:=Lib.hid h3
 clear h3
 by_cases h4 : s = Ie.sSub
 ·have e4 : (s.toList == [45]) = true:=lit_yes h4
  have G4:=Lib.hid h4
  clear h4
  go_enter Tryz.func396,Tryz.ntmps396
  go_wp2_with fail
  go_ret
  refine ⟨?_,rfl⟩
  unfold Ie.cnt
  rw [if_neg G0.out,if_neg G1.out,if_neg G2.out,if_neg G3.out,if_pos G4.out]
  try rw [← wrap64_w]
  try rfl
 have e4 : (s.toList == [45]) = false:=lit_no h4
 have G4:=Lib.hid h4
 clear h4
 go_enter Tryz.func396,Tryz.ntmps396
 go_wp2_with fail
 go_ret
 refine ⟨?_,rfl⟩
 unfold Ie.cnt
 rw [if_neg G0.out,if_neg G1.out,if_neg G2.out,if_neg G3.out,if_neg G4.out]
 try rw [← wrap64_w]
 try rfl
theorem shifted_any (s : ByteArray) (a b : Int) (w : World) : Calls Tryz.prog 394 #[.string s, .int .i64 a, .int .i64 b] w fun e w' => e = .returned (.tuple #[.int .i64 (Ie.shf s a b).1, .int .i64 (Ie.shf s a b).2]) ∧ w' = w:=by
 by_cases hb : b < 0 ∨ 63 < b
 ·have HB:=Lib.hid hb
  go_enter Tryz.func394,Tryz.ntmps394
  rcases hb with hb | hb
  all_goals
   go_wp2_with fail
   go_ret2
   refine ⟨?_,rfl⟩
   unfold Ie.shf
   rw [if_pos HB.out]
   rfl
 ·have HB:=Lib.hid hb
  have z1 : 0 ≤ b:=by omega
  have z2 : b ≤ 63:=by omega
  have z3 : (min b.toNat 64) = b.toNat:=by omega
  clear hb
  by_cases h0 : s = Ie.sShl
  ·have e0 : (s.toList == [60,60]) = true:=lit_yes h0
   have G0:=Lib.hid h0
   clear h0
   go_enter Tryz.func394,Tryz.ntmps394
   go_wp2_with fail
   go_ret2
   refine ⟨?_,rfl⟩
   unfold Ie.shf
   rw [if_neg HB.out,if_pos G0.out]
   rw [← wrap64_w]
   rfl
  ·have e0 : (s.toList == [60,60]) = false:=lit_no h0
   have G0:=Lib.hid h0
   clear h0
   go_enter Tryz.func394,Tryz.ntmps394
   go_wp2_with fail
   go_ret2
   refine ⟨?_,rfl⟩
   unfold Ie.shf
   rw [if_neg HB.out,if_neg G0.out]
   rfl
theorem divided_any (s : ByteArray) (a b : Int) (w : World) : Calls Tryz.prog 395 #[.string s, .int .i64 a, .int .i64 b] w fun e w' => e = .returned (.tuple #[.int .i64 (Ie.dvd s a b).1, .int .i64 (Ie.dvd s a b).2]) ∧ w' = w:=by
 by_cases hb : b = 0
 ·have HB:=Lib.hid hb
  go_enter Tryz.func395,Tryz.ntmps395
  subst hb
  all_goals
   go_wp2_with fail
   go_ret2
   refine ⟨?_,rfl⟩
   rw [show Ie.dvd s a 0 = (0,92) from if_pos rfl]
   rfl
 ·have HB:=Lib.hid hb
  by_cases h0 : s = Ie.sQuo
  ·have e0 : (s.toList == [47]) = true:=lit_yes h0
   have G0:=Lib.hid h0
   clear h0
   go_enter Tryz.func395,Tryz.ntmps395
   go_wp2_with fail
   go_ret2
   refine ⟨?_,rfl⟩
   unfold Ie.dvd
   rw [if_neg HB.out,if_pos G0.out]
   try rw [← wrap64_w]
   rfl
  ·have e0 : (s.toList == [47]) = false:=lit_no h0
   have G0:=Lib.hid h0
   clear h0
   go_enter Tryz.func395,Tryz.ntmps395
   go_wp2_with fail
   go_ret2
   refine ⟨?_,rfl⟩
   unfold Ie.dvd
   rw [if_neg HB.out,if_neg G0.out]
   rfl
def Ie.lnk (s : ByteArray) (y : E) (a : Int) : Int × Int :=
 match early s a with
 | some n => (n,0)
 | none => if (comes y).2 ≠ 0 then (0,(comes y).2) else two s a (comes y).1
theorem two_cmp {s : ByteArray} (h : s = Ie.sEq ∨ s = Ie.sNe ∨ s = Ie.sLt ∨ s = Ie.sGt ∨ s = Ie.sLe ∨ s = Ie.sGe) (a b : Int) : Ie.two s a b = (Ie.one (Ie.cmpB s a b),0):=by
 rcases h with rfl | rfl | rfl | rfl | rfl | rfl
 ·rfl
 ·show (Ie.one (decide (a ≠ b)),(0 : Int)) = (Ie.one (a != b),0)
  have e : (a != b) = decide (a ≠ b):=by by_cases h : a = b <;> simp [h]
  rw [e]
 ·rfl
 ·rfl
 ·rfl
 ·rfl
theorem two_shf {s : ByteArray} (h : s = Ie.sShl ∨ s = Ie.sShr) (a b : Int) : Ie.two s a b = Ie.shf s a b:=by
 rcases h with rfl | rfl
 ·rfl
 ·rfl
theorem two_dvd {s : ByteArray} (h : s = Ie.sQuo ∨ s = Ie.sRem) (a b : Int) : Ie.two s a b = Ie.dvd s a b:=by
 rcases h with rfl | rfl
 ·rfl
 ·rfl
theorem two_cnt {s : ByteArray} (h : s = Ie.sBar ∨ s = Ie.sHat ∨ s = Ie.sAmp ∨ s = Ie.sAdd ∨ s = Ie.sSub ∨ s = Ie.sMul) (a b : Int) : Ie.two s a b = (Ie.cnt s a b,0):=by
 rcases h with rfl | rfl | rfl | rfl | rfl | rfl <;> rfl
theorem lv_cases {s : ByteArray} (h : Ie.lvS s ≠ 0) : s = Ie.sOr ∨ s = Ie.sAnd ∨ (s = Ie.sEq ∨ s = Ie.sNe ∨ s = Ie.sLt ∨ s = Ie.sGt ∨ s = Ie.sLe ∨ s = Ie.sGe) ∨ (s = Ie.sShl ∨ s = Ie.sShr) ∨ (s = Ie.sQuo ∨ s = Ie.sRem) ∨
  (s = Ie.sBar ∨ s = Ie.sHat ∨ s = Ie.sAmp ∨ s = Ie.sAdd ∨ s = Ie.sSub ∨ s = Ie.sMul):=by
 by_cases h0 : s = Ie.sOr
 ·exact Or.inl h0
 by_cases h1 : s = Ie.sAnd
 ·exact Or.inr (Or.inl h1)
 by_cases h2 : s = Ie.sBar
 ·exact Or.inr (Or.inr (Or.inr (Or.inr (Or.inr (Or.inl h2)))))
 by_cases h3 : s = Ie.sHat
 ·exact Or.inr (Or.inr (Or.inr (Or.inr (Or.inr (Or.inr (Or.inl h3))))))
 by_cases h4 : s = Ie.sAmp
 ·exact Or.inr (Or.inr (Or.inr (Or.inr (Or.inr (Or.inr (Or.inr (Or.inl h4)))))))
 by_cases h5 : s = Ie.sEq
 ·exact Or.inr (Or.inr (Or.inl (Or.inl h5)))
 by_cases h6 : s = Ie.sNe
 ·exact Or.inr (Or.inr (Or.inl (Or.inr (Or.inl h6))))
 by_cases h7 : s = Ie.sLt
 ·exact Or.inr (Or.inr (Or.inl (Or.inr (Or.inr (Or.inl h7)))))
 by_cases h8 : s = Ie.sGt
 ·exact Or.inr (Or.inr (Or.inl (Or.inr (Or.inr (Or.inr (Or.inl h8))))))
 by_cases h9 : s = Ie.sLe
 ·exact Or.inr (Or.inr (Or.inl (Or.inr (Or.inr (Or.inr (Or.inr (Or.inl h9)))))))
 by_cases h10 : s = Ie.sGe
 ·exact Or.inr (Or.inr (Or.inl (Or.inr (Or.inr (Or.inr (Or.inr (Or.inr h10)))))))
 by_cases h11 : s = Ie.sShl
 ·exact Or.inr (Or.inr (Or.inr (Or.inl (Or.inl h11))))
 by_cases h12 : s = Ie.sShr
 ·exact Or.inr (Or.inr (Or.inr (Or.inl (Or.inr h12))))
 by_cases h13 : s = Ie.sAdd
 ·exact Or.inr (Or.inr (Or.inr (Or.inr (Or.inr (Or.inr (Or.inr (Or.inr (Or.inl h13))))))))
 by_cases h14 : s = Ie.sSub
 ·exact Or.inr (Or.inr (Or.inr (Or.inr (Or.inr (Or.inr (Or.inr (Or.inr (Or.inr (Or.inl h14)))))))))
 by_cases h15 : s = Ie.sMul
 ·exact Or.inr (Or.inr (Or.inr (Or.inr (Or.inr (Or.inr (Or.inr (Or.inr (Or.inr (Or.inr h15)))))))))
 by_cases h16 : s = Ie.sQuo
 ·exact Or.inr (Or.inr (Or.inr (Or.inr (Or.inl (Or.inl h16)))))
 by_cases h17 : s = Ie.sRem
 ·exact Or.inr (Or.inr (Or.inr (Or.inr (Or.inl (Or.inr h17)))))
 refine absurd ?_ h
 unfold Ie.lvS
 rw [if_neg h0,if_neg h1,if_neg h2,if_neg h3,if_neg h4,if_neg h5,if_neg h6,if_neg h7,if_neg h8,if_neg h9,if_neg h10,if_neg h11,if_neg h12,if_neg h13,if_neg h14,if_neg h15,if_neg h16,if_neg h17]
theorem link_or (s : ByteArray) (y : E) (v : Value) (a : Int) (w : World) (ha : ∀ W,Below w.heap.size w W → VM v y W) (hs : s = Ie.sOr) :
  Calls Tryz.prog 390 #[.agg #[.string s,v], .int .i64 a] w fun e w' => e = .returned (.tuple #[.int .i64 (Ie.lnk s y a).1, .int .i64 (Ie.lnk s y a).2]) ∧ Below w.heap.size w w':=by
 have hB1 : Below w.heap.size w (w.alloc (.cells #[.string s,v] 396)):=Below.alloc (Below.refl _ _) (Nat.le_refl _) _
 have hbx : (w.alloc (.cells #[.string s,v] 396)).heap[w.heap.size]? = some (.cells #[.string s,v] 396 (0,0)):=heap_alloc_new w _
 obtain ⟨t,p,f,rfl,hn,hm,he,hcl⟩:=ha _ hB1
 obtain ⟨ex,hex⟩ : ∃ ex,ex = (Ie.comes y).2:=⟨_,rfl⟩
 obtain ⟨vx,hvx⟩ : ∃ vx,vx = (Ie.comes y).1:=⟨_,rfl⟩
 have HM:=Lib.hid hcl
 have HB1:=Lib.hid hB1
 have HX:=Lib.hid hbx
 have HE:=Lib.hid hex
 have HV:=Lib.hid hvx
 clear hcl hB1 hbx hex hvx ha
 have eOr : (s.toList == [124,124]) = true:=lit_yes hs
 have eAnd : (s.toList == [38,38]) = false:=lit_no (by rw [hs]; decide)
 have eEq : (s.toList == [61,61]) = false:=lit_no (by rw [hs]; decide)
 have eNe : (s.toList == [33,61]) = false:=lit_no (by rw [hs]; decide)
 have eLt : (s.toList == [60]) = false:=lit_no (by rw [hs]; decide)
 have eGt : (s.toList == [62]) = false:=lit_no (by rw [hs]; decide)
 have eLe : (s.toList == [60,61]) = false:=lit_no (by rw [hs]; decide)
 have eGe : (s.toList == [62,61]) = false:=lit_no (by rw [hs]; decide)
 have eShl : (s.toList == [60,60]) = false:=lit_no (by rw [hs]; decide)
 have eShr : (s.toList == [62,62]) = false:=lit_no (by rw [hs]; decide)
 have eQuo : (s.toList == [47]) = false:=lit_no (by rw [hs]; decide)
 have eRem : (s.toList == [37]) = false:=lit_no (by rw [hs]; decide)
 by_cases hz : a ≠ 0
 ·have hea : Ie.early s a = some 1:=by rw [hs]; exact if_pos ⟨rfl,hz⟩
  have HEA:=Lib.hid hea
  clear hea hs
  go_enter Tryz.func390,Tryz.ntmps390
  go_wp2_with fail
  go_ret2
  refine ⟨?_,HB1.out⟩
  unfold Ie.lnk
  rw [HEA.out]
  rfl
 have hea : Ie.early s a = none:=by rw [hs]; exact (if_neg (fun h => hz h.2)).trans (if_neg (fun h => absurd h.1 (by decide)))
 have htw : ∀ b,Ie.two s a b = (Ie.one (b != 0),0):=fun b => by
  rw [hs]
  show (Ie.one (decide (b ≠ 0)),(0 : Int)) = _
  by_cases hb : b = 0
  ·rw [hb]; rfl
  ·have e1 : (b != 0) = true:=by simpa using hb
   have e2 : decide (b ≠ 0) = true:=by simpa using hb
   rw [e1,e2]
 have HEA:=Lib.hid hea
 have HTW:=Lib.hid htw
 clear hea hs htw
 have hz' : a = 0:=Decidable.not_not.1 hz
 subst hz'
 go_enter Tryz.func390,Tryz.ntmps390
 go_wp2_with fail
 refine HM.out.mono ?_
 rintro e w2 ⟨rfl,hB2⟩
 rw [← HE.out,← HV.out]
 have hb2:=below_heap hB2 HX.out
 obtain ⟨k0, -⟩:=box2v hb2
 have hw2:=Below.then HB1.out hB2
 have HW2:=Lib.hid hw2
 clear hB2 hb2 hw2 hn hm he HM
 by_cases h0 : ex = 0
 ·go_wp2_with fail
  refine (truth_any _ _).mono ?_
  rintro e w3 ⟨rfl,rfl⟩
  go_wp2_with fail
  go_ret2
  refine ⟨?_,HW2.out⟩
  unfold Ie.lnk
  rw [HEA.out]
  dsimp only
  rw [← HE.out,← HV.out,if_neg (fun h => h h0),HTW.out]
  rfl
 ·go_wp2_with fail
  go_ret2
  refine ⟨?_,HW2.out⟩
  unfold Ie.lnk
  rw [HEA.out]
  dsimp only
  rw [← HE.out,if_pos h0]
  rfl
theorem link_and (s : ByteArray) (y : E) (v : Value) (a : Int) (w : World) (ha : ∀ W,Below w.heap.size w W → VM v y W) (hs : s = Ie.sAnd) :
  Calls Tryz.prog 390 #[.agg #[.string s,v], .int .i64 a] w fun e w' => e = .returned (.tuple #[.int .i64 (Ie.lnk s y a).1, .int .i64 (Ie.lnk s y a).2]) ∧ Below w.heap.size w w':=by
 have hB1 : Below w.heap.size w (w.alloc (.cells #[.string s,v] 396)):=Below.alloc (Below.refl _ _) (Nat.le_refl _) _
 have hbx : (w.alloc (.cells #[.string s,v] 396)).heap[w.heap.size]? = some (.cells #[.string s,v] 396 (0,0)):=heap_alloc_new w _
 obtain ⟨t,p,f,rfl,hn,hm,he,hcl⟩:=ha _ hB1
 obtain ⟨ex,hex⟩ : ∃ ex,ex = (Ie.comes y).2:=⟨_,rfl⟩
 obtain ⟨vx,hvx⟩ : ∃ vx,vx = (Ie.comes y).1:=⟨_,rfl⟩
 have HM:=Lib.hid hcl
 have HB1:=Lib.hid hB1
 have HX:=Lib.hid hbx
 have HE:=Lib.hid hex
 have HV:=Lib.hid hvx
 clear hcl hB1 hbx hex hvx ha
 have eOr : (s.toList == [124,124]) = false:=lit_no (by rw [hs]; decide)
 have eAnd : (s.toList == [38,38]) = true:=lit_yes hs
 have eEq : (s.toList == [61,61]) = false:=lit_no (by rw [hs]; decide)
 have eNe : (s.toList == [33,61]) = false:=lit_no (by rw [hs]; decide)
 have eLt : (s.toList == [60]) = false:=lit_no (by rw [hs]; decide)
 have eGt : (s.toList == [62]) = false:=lit_no (by rw [hs]; decide)
 have eLe : (s.toList == [60,61]) = false:=lit_no (by rw [hs]; decide)
 have eGe : (s.toList == [62,61]) = false:=lit_no (by rw [hs]; decide)
 have eShl : (s.toList == [60,60]) = false:=lit_no (by rw [hs]; decide)
 have eShr : (s.toList == [62,62]) = false:=lit_no (by rw [hs]; decide)
 have eQuo : (s.toList == [47]) = false:=lit_no (by rw [hs]; decide)
 have eRem : (s.toList == [37]) = false:=lit_no (by rw [hs]; decide)
 by_cases hz : a = 0
 ·have hea : Ie.early s a = some 0:=by rw [hs]; exact (if_neg (fun h => absurd h.1 (by decide))).trans (if_pos ⟨rfl,hz⟩)
  have HEA:=Lib.hid hea
  clear hea hs
  go_enter Tryz.func390,Tryz.ntmps390
  go_wp2_with fail
  go_ret2
  refine ⟨?_,HB1.out⟩
  unfold Ie.lnk
  rw [HEA.out]
  rfl
 have hea : Ie.early s a = none:=by rw [hs]; exact (if_neg (fun h => absurd h.1 (by decide))).trans (if_neg (fun h => hz h.2))
 have htw : ∀ b,Ie.two s a b = (Ie.one (b != 0),0):=fun b => by
  rw [hs]
  show (Ie.one (decide (b ≠ 0)),(0 : Int)) = _
  by_cases hb : b = 0
  ·rw [hb]; rfl
  ·have e1 : (b != 0) = true:=by simpa using hb
   have e2 : decide (b ≠ 0) = true:=by simpa using hb
   rw [e1,e2]
 have HEA:=Lib.hid hea
 have HTW:=Lib.hid htw
 clear hea hs htw
 go_enter Tryz.func390,Tryz.ntmps390
 go_wp2_with fail
 refine HM.out.mono ?_
 rintro e w2 ⟨rfl,hB2⟩
 rw [← HE.out,← HV.out]
 have hb2:=below_heap hB2 HX.out
 obtain ⟨k0, -⟩:=box2v hb2
 have hw2:=Below.then HB1.out hB2
 have HW2:=Lib.hid hw2
 clear hB2 hb2 hw2 hn hm he HM
 by_cases h0 : ex = 0
 ·go_wp2_with fail
  refine (truth_any _ _).mono ?_
  rintro e w3 ⟨rfl,rfl⟩
  go_wp2_with fail
  go_ret2
  refine ⟨?_,HW2.out⟩
  unfold Ie.lnk
  rw [HEA.out]
  dsimp only
  rw [← HE.out,← HV.out,if_neg (fun h => h h0),HTW.out]
  rfl
 ·go_wp2_with fail
  go_ret2
  refine ⟨?_,HW2.out⟩
  unfold Ie.lnk
  rw [HEA.out]
  dsimp only
  rw [← HE.out,if_pos h0]
  rfl
theorem link_eq (s : ByteArray) (y : E) (v : Value) (a : Int) (w : World) (ha : ∀ W,Below w.heap.size w W → VM v y W) (hs : s = Ie.sEq) :
  Calls Tryz.prog 390 #[.agg #[.string s,v], .int .i64 a] w fun e w' => e = .returned (.tuple #[.int .i64 (Ie.lnk s y a).1, .int .i64 (Ie.lnk s y a).2]) ∧ Below w.heap.size w w':=by
 have hB1 : Below w.heap.size w (w.alloc (.cells #[.string s,v] 396)):=Below.alloc (Below.refl _ _) (Nat.le_refl _) _
 have hbx : (w.alloc (.cells #[.string s,v] 396)).heap[w.heap.size]? = some (.cells #[.string s,v] 396 (0,0)):=heap_alloc_new w _
 obtain ⟨t,p,f,rfl,hn,hm,he,hcl⟩:=ha _ hB1
 obtain ⟨ex,hex⟩ : ∃ ex,ex = (Ie.comes y).2:=⟨_,rfl⟩
 obtain ⟨vx,hvx⟩ : ∃ vx,vx = (Ie.comes y).1:=⟨_,rfl⟩
 have HM:=Lib.hid hcl
 have HB1:=Lib.hid hB1
 have HX:=Lib.hid hbx
 have HE:=Lib.hid hex
 have HV:=Lib.hid hvx
 clear hcl hB1 hbx hex hvx ha
 have eOr : (s.toList == [124,124]) = false:=lit_no (by rw [hs]; decide)
 have eAnd : (s.toList == [38,38]) = false:=lit_no (by rw [hs]; decide)
 have eEq : (s.toList == [61,61]) = true:=lit_yes hs
 have eNe : (s.toList == [33,61]) = false:=lit_no (by rw [hs]; decide)
 have eLt : (s.toList == [60]) = false:=lit_no (by rw [hs]; decide)
 have eGt : (s.toList == [62]) = false:=lit_no (by rw [hs]; decide)
 have eLe : (s.toList == [60,61]) = false:=lit_no (by rw [hs]; decide)
 have eGe : (s.toList == [62,61]) = false:=lit_no (by rw [hs]; decide)
 have eShl : (s.toList == [60,60]) = false:=lit_no (by rw [hs]; decide)
 have eShr : (s.toList == [62,62]) = false:=lit_no (by rw [hs]; decide)
 have eQuo : (s.toList == [47]) = false:=lit_no (by rw [hs]; decide)
 have eRem : (s.toList == [37]) = false:=lit_no (by rw [hs]; decide)
 have hea : Ie.early s a = none:=(if_neg (fun h => absurd h.1 (by rw [hs]; decide))).trans (if_neg (fun h => absurd h.1 (by rw [hs]; decide)))
 have HEA:=Lib.hid hea
 have htw : ∀ b,Ie.two s a b = (Ie.one (Ie.cmpB s a b),0):=two_cmp (by rw [hs]; decide) a
 have HTW:=Lib.hid htw
 clear hea hs htw
 go_enter Tryz.func390,Tryz.ntmps390
 go_wp2_with fail
 refine HM.out.mono ?_
 rintro e w2 ⟨rfl,hB2⟩
 rw [← HE.out,← HV.out]
 have hb2:=below_heap hB2 HX.out
 obtain ⟨k0, -⟩:=box2v hb2
 have hw2:=Below.then HB1.out hB2
 have HW2:=Lib.hid hw2
 clear hB2 hb2 hw2 hn hm he HM
 by_cases h0 : ex = 0
 ·go_wp2_with fail
  refine (compared_any _ _ _ _).mono ?_
  rintro e w3 ⟨rfl,rfl⟩
  go_wp2_with fail
  refine (truth_any _ _).mono ?_
  rintro e w3 ⟨rfl,rfl⟩
  go_wp2_with fail
  go_ret2
  refine ⟨?_,HW2.out⟩
  unfold Ie.lnk
  rw [HEA.out]
  dsimp only
  rw [← HE.out,← HV.out,if_neg (fun h => h h0),HTW.out]
  rfl
 ·go_wp2_with fail
  go_ret2
  refine ⟨?_,HW2.out⟩
  unfold Ie.lnk
  rw [HEA.out]
  dsimp only
  rw [← HE.out,if_pos h0]
  rfl
theorem link_ne (s : ByteArray) (y : E) (v : Value) (a : Int) (w : World) (ha : ∀ W,Below w.heap.size w W → VM v y W) (hs : s = Ie.sNe) :
  Calls Tryz.prog 390 #[.agg #[.string s,v], .int .i64 a] w fun e w' => e = .returned (.tuple #[.int .i64 (Ie.lnk s y a).1, .int .i64 (Ie.lnk s y a).2]) ∧ Below w.heap.size w w':=by
 have hB1 : Below w.heap.size w (w.alloc (.cells #[.string s,v] 396)):=Below.alloc (Below.refl _ _) (Nat.le_refl _) _
 have hbx : (w.alloc (.cells #[.string s,v] 396)).heap[w.heap.size]? = some (.cells #[.string s,v] 396 (0,0)):=heap_alloc_new w _
 obtain ⟨t,p,f,rfl,hn,hm,he,hcl⟩:=ha _ hB1
 obtain ⟨ex,hex⟩ : ∃ ex,ex = (Ie.comes y).2:=⟨_,rfl⟩
 obtain ⟨vx,hvx⟩ : ∃ vx,vx = (Ie.comes y).1:=⟨_,rfl⟩
 have HM:=Lib.hid hcl
 have HB1:=Lib.hid hB1
 have HX:=Lib.hid hbx
 have HE:=Lib.hid hex
 have HV:=Lib.hid hvx
 clear hcl hB1 hbx hex hvx ha
 have eOr : (s.toList == [124,124]) = false:=lit_no (by rw [hs]; decide)
 have eAnd : (s.toList == [38,38]) = false:=lit_no (by rw [hs]; decide)
 have eEq : (s.toList == [61,61]) = false:=lit_no (by rw [hs]; decide)
 have eNe : (s.toList == [33,61]) = true:=lit_yes hs
 have eLt : (s.toList == [60]) = false:=lit_no (by rw [hs]; decide)
 have eGt : (s.toList == [62]) = false:=lit_no (by rw [hs]; decide)
 have eLe : (s.toList == [60,61]) = false:=lit_no (by rw [hs]; decide)
 have eGe : (s.toList == [62,61]) = false:=lit_no (by rw [hs]; decide)
 have eShl : (s.toList == [60,60]) = false:=lit_no (by rw [hs]; decide)
 have eShr : (s.toList == [62,62]) = false:=lit_no (by rw [hs]; decide)
 have eQuo : (s.toList == [47]) = false:=lit_no (by rw [hs]; decide)
 have eRem : (s.toList == [37]) = false:=lit_no (by rw [hs]; decide)
 have hea : Ie.early s a = none:=(if_neg (fun h => absurd h.1 (by rw [hs]; decide))).trans (if_neg (fun h => absurd h.1 (by rw [hs]; decide)))
 have HEA:=Lib.hid hea
 have htw : ∀ b,Ie.two s a b = (Ie.one (Ie.cmpB s a b),0):=two_cmp (by rw [hs]; decide) a
 have HTW:=Lib.hid htw
 clear hea hs htw
 go_enter Tryz.func390,Tryz.ntmps390
 go_wp2_with fail
 refine HM.out.mono ?_
 rintro e w2 ⟨rfl,hB2⟩
 rw [← HE.out,← HV.out]
 have hb2:=below_heap hB2 HX.out
 obtain ⟨k0, -⟩:=box2v hb2
 have hw2:=Below.then HB1.out hB2
 have HW2:=Lib.hid hw2
 clear hB2 hb2 hw2 hn hm he HM
 by_cases h0 : ex = 0
 ·go_wp2_with fail
  refine (compared_any _ _ _ _).mono ?_
  rintro e w3 ⟨rfl,rfl⟩
  go_wp2_with fail
  refine (truth_any _ _).mono ?_
  rintro e w3 ⟨rfl,rfl⟩
  go_wp2_with fail
  go_ret2
  refine ⟨?_,HW2.out⟩
  unfold Ie.lnk
  rw [HEA.out]
  dsimp only
  rw [← HE.out,← HV.out,if_neg (fun h => h h0),HTW.out]
  rfl
 ·go_wp2_with fail
  go_ret2
  refine ⟨?_,HW2.out⟩
  unfold Ie.lnk
  rw [HEA.out]
  dsimp only
  rw [← HE.out,if_pos h0]
  rfl
theorem link_lt (s : ByteArray) (y : E) (v : Value) (a : Int) (w : World) (ha : ∀ W,Below w.heap.size w W → VM v y W) (hs : s = Ie.sLt) :
  Calls Tryz.prog 390 #[.agg #[.string s,v], .int .i64 a] w fun e w' => e = .returned (.tuple #[.int .i64 (Ie.lnk s y a).1, .int .i64 (Ie.lnk s y a).2]) ∧ Below w.heap.size w w':=by
 have hB1 : Below w.heap.size w (w.alloc (.cells #[.string s,v] 396)):=Below.alloc (Below.refl _ _) (Nat.le_refl _) _
 have hbx : (w.alloc (.cells #[.string s,v] 396)).heap[w.heap.size]? = some (.cells #[.string s,v] 396 (0,0)):=heap_alloc_new w _
 obtain ⟨t,p,f,rfl,hn,hm,he,hcl⟩:=ha _ hB1
 obtain ⟨ex,hex⟩ : ∃ ex,ex = (Ie.comes y).2:=⟨_,rfl⟩
 obtain ⟨vx,hvx⟩ : ∃ vx,vx = (Ie.comes y).1:=⟨_,rfl⟩
 have HM:=Lib.hid hcl
 have HB1:=Lib.hid hB1
 have HX:=Lib.hid hbx
 have HE:=Lib.hid hex
 have HV:=Lib.hid hvx
 clear hcl hB1 hbx hex hvx ha
 have eOr : (s.toList == [124,124]) = false:=lit_no (by rw [hs]; decide)
 have eAnd : (s.toList == [38,38]) = false:=lit_no (by rw [hs]; decide)
 have eEq : (s.toList == [61,61]) = false:=lit_no (by rw [hs]; decide)
 have eNe : (s.toList == [33,61]) = false:=lit_no (by rw [hs]; decide)
 have eLt : (s.toList == [60]) = true:=lit_yes hs
 have eGt : (s.toList == [62]) = false:=lit_no (by rw [hs]; decide)
 have eLe : (s.toList == [60,61]) = false:=lit_no (by rw [hs]; decide)
 have eGe : (s.toList == [62,61]) = false:=lit_no (by rw [hs]; decide)
 have eShl : (s.toList == [60,60]) = false:=lit_no (by rw [hs]; decide)
 have eShr : (s.toList == [62,62]) = false:=lit_no (by rw [hs]; decide)
 have eQuo : (s.toList == [47]) = false:=lit_no (by rw [hs]; decide)
 have eRem : (s.toList == [37]) = false:=lit_no (by rw [hs]; decide)
 have hea : Ie.early s a = none:=(if_neg (fun h => absurd h.1 (by rw [hs]; decide))).trans (if_neg (fun h => absurd h.1 (by rw [hs]; decide)))
 have HEA:=Lib.hid hea
 have htw : ∀ b,Ie.two s a b = (Ie.one (Ie.cmpB s a b),0):=two_cmp (by rw [hs]; decide) a
 have HTW:=Lib.hid htw
 clear hea hs htw
 go_enter Tryz.func390,Tryz.ntmps390
 go_wp2_with fail
 refine HM.out.mono ?_
 rintro e w2 ⟨rfl,hB2⟩
 rw [← HE.out,← HV.out]
 have hb2:=below_heap hB2 HX.out
 obtain ⟨k0, -⟩:=box2v hb2
 have hw2:=Below.then HB1.out hB2
 have HW2:=Lib.hid hw2
 clear hB2 hb2 hw2 hn hm he HM
 by_cases h0 : ex = 0
 ·go_wp2_with fail
  refine (compared_any _ _ _ _).mono ?_
  rintro e w3 ⟨rfl,rfl⟩
  go_wp2_with fail
  refine (truth_any _ _).mono ?_
  rintro e w3 ⟨rfl,rfl⟩
  go_wp2_with fail
  go_ret2
  refine ⟨?_,HW2.out⟩
  unfold Ie.lnk
  rw [HEA.out]
  dsimp only
  rw [← HE.out,← HV.out,if_neg (fun h => h h0),HTW.out]
  rfl
 ·go_wp2_with fail
  go_ret2
  refine ⟨?_,HW2.out⟩
  unfold Ie.lnk
  rw [HEA.out]
  dsimp only
  rw [← HE.out,if_pos h0]
  rfl
theorem link_gt (s : ByteArray) (y : E) (v : Value) (a : Int) (w : World) (ha : ∀ W,Below w.heap.size w W → VM v y W) (hs : s = Ie.sGt) :
  Calls Tryz.prog 390 #[.agg #[.string s,v], .int .i64 a] w fun e w' => e = .returned (.tuple #[.int .i64 (Ie.lnk s y a).1, .int .i64 (Ie.lnk s y a).2]) ∧ Below w.heap.size w w':=by
 have hB1 : Below w.heap.size w (w.alloc (.cells #[.string s,v] 396)):=Below.alloc (Below.refl _ _) (Nat.le_refl _) _
 have hbx : (w.alloc (.cells #[.string s,v] 396)).heap[w.heap.size]? = some (.cells #[.string s,v] 396 (0,0)):=heap_alloc_new w _
 obtain ⟨t,p,f,rfl,hn,hm,he,hcl⟩:=ha _ hB1
 obtain ⟨ex,hex⟩ : ∃ ex,ex = (Ie.comes y).2:=⟨_,rfl⟩
 obtain ⟨vx,hvx⟩ : ∃ vx,vx = (Ie.comes y).1:=⟨_,rfl⟩
 have HM:=Lib.hid hcl
 have HB1:=Lib.hid hB1
 have HX:=Lib.hid hbx
 have HE:=Lib.hid hex
 have HV:=Lib.hid hvx
 clear hcl hB1 hbx hex hvx ha
 have eOr : (s.toList == [124,124]) = false:=lit_no (by rw [hs]; decide)
 have eAnd : (s.toList == [38,38]) = false:=lit_no (by rw [hs]; decide)
 have eEq : (s.toList == [61,61]) = false:=lit_no (by rw [hs]; decide)
 have eNe : (s.toList == [33,61]) = false:=lit_no (by rw [hs]; decide)
 have eLt : (s.toList == [60]) = false:=lit_no (by rw [hs]; decide)
 have eGt : (s.toList == [62]) = true:=lit_yes hs
 have eLe : (s.toList == [60,61]) = false:=lit_no (by rw [hs]; decide)
 have eGe : (s.toList == [62,61]) = false:=lit_no (by rw [hs]; decide)
 have eShl : (s.toList == [60,60]) = false:=lit_no (by rw [hs]; decide)
 have eShr : (s.toList == [62,62]) = false:=lit_no (by rw [hs]; decide)
 have eQuo : (s.toList == [47]) = false:=lit_no (by rw [hs]; decide)
 have eRem : (s.toList == [37]) = false:=lit_no (by rw [hs]; decide)
 have hea : Ie.early s a = none:=(if_neg (fun h => absurd h.1 (by rw [hs]; decide))).trans (if_neg (fun h => absurd h.1 (by rw [hs]; decide)))
 have HEA:=Lib.hid hea
 have htw : ∀ b,Ie.two s a b = (Ie.one (Ie.cmpB s a b),0):=two_cmp (by rw [hs]; decide) a
 have HTW:=Lib.hid htw
 clear hea hs htw
 go_enter Tryz.func390,Tryz.ntmps390
 go_wp2_with fail
 refine HM.out.mono ?_
 rintro e w2 ⟨rfl,hB2⟩
 rw [← HE.out,← HV.out]
 have hb2:=below_heap hB2 HX.out
 obtain ⟨k0, -⟩:=box2v hb2
 have hw2:=Below.then HB1.out hB2
 have HW2:=Lib.hid hw2
 clear hB2 hb2 hw2 hn hm he HM
 by_cases h0 : ex = 0
 ·go_wp2_with fail
  refine (compared_any _ _ _ _).mono ?_
  rintro e w3 ⟨rfl,rfl⟩
  go_wp2_with fail
  refine (truth_any _ _).mono ?_
  rintro e w3 ⟨rfl,rfl⟩
  go_wp2_with fail
  go_ret2
  refine ⟨?_,HW2.out⟩
  unfold Ie.lnk
  rw [HEA.out]
  dsimp only
  rw [← HE.out,← HV.out,if_neg (fun h => h h0),HTW.out]
  rfl
 ·go_wp2_with fail
  go_ret2
  refine ⟨?_,HW2.out⟩
  unfold Ie.lnk
  rw [HEA.out]
  dsimp only
  rw [← HE.out,if_pos h0]
  rfl
theorem link_le (s : ByteArray) (y : E) (v : Value) (a : Int) (w : World) (ha : ∀ W,Below w.heap.size w W → VM v y W) (hs : s = Ie.sLe) :
  Calls Tryz.prog 390 #[.agg #[.string s,v], .int .i64 a] w fun e w' => e = .returned (.tuple #[.int .i64 (Ie.lnk s y a).1, .int .i64 (Ie.lnk s y a).2]) ∧ Below w.heap.size w w':=by
 have hB1 : Below w.heap.size w (w.alloc (.cells #[.string s,v] 396)):=Below.alloc (Below.refl _ _) (Nat.le_refl _) _
 have hbx : (w.alloc (.cells #[.string s,v] 396)).heap[w.heap.size]? = some (.cells #[.string s,v] 396 (0,0)):=heap_alloc_new w _
 obtain ⟨t,p,f,rfl,hn,hm,he,hcl⟩:=ha _ hB1
 obtain ⟨ex,hex⟩ : ∃ ex,ex = (Ie.comes y).2:=⟨_,rfl⟩
 obtain ⟨vx,hvx⟩ : ∃ vx,vx = (Ie.comes y).1:=⟨_,rfl⟩
 have HM:=Lib.hid hcl
 have HB1:=Lib.hid hB1
 have HX:=Lib.hid hbx
 have HE:=Lib.hid hex
 have HV:=Lib.hid hvx
 clear hcl hB1 hbx hex hvx ha
 have eOr : (s.toList == [124,124]) = false:=lit_no (by rw [hs]; decide)
 have eAnd : (s.toList == [38,38]) = false:=lit_no (by rw [hs]; decide)
 have eEq : (s.toList == [61,61]) = false:=lit_no (by rw [hs]; decide)
 have eNe : (s.toList == [33,61]) = false:=lit_no (by rw [hs]; decide)
 have eLt : (s.toList == [60]) = false:=lit_no (by rw [hs]; decide)
 have eGt : (s.toList == [62]) = false:=lit_no (by rw [hs]; decide)
 have eLe : (s.toList == [60,61]) = true:=lit_yes hs
 have eGe : (s.toList == [62,61]) = false:=lit_no (by rw [hs]; decide)
 have eShl : (s.toList == [60,60]) = false:=lit_no (by rw [hs]; decide)
 have eShr : (s.toList == [62,62]) = false:=lit_no (by rw [hs]; decide)
 have eQuo : (s.toList == [47]) = false:=lit_no (by rw [hs]; decide)
 have eRem : (s.toList == [37]) = false:=lit_no (by rw [hs]; decide)
 have hea : Ie.early s a = none:=(if_neg (fun h => absurd h.1 (by rw [hs]; decide))).trans (if_neg (fun h => absurd h.1 (by rw [hs]; decide)))
 have HEA:=Lib.hid hea
 have htw : ∀ b,Ie.two s a b = (Ie.one (Ie.cmpB s a b),0):=two_cmp (by rw [hs]; decide) a
 have HTW:=Lib.hid htw
 clear hea hs htw
 go_enter Tryz.func390,Tryz.ntmps390
 go_wp2_with fail
 refine HM.out.mono ?_
 rintro e w2 ⟨rfl,hB2⟩
 rw [← HE.out,← HV.out]
 have hb2:=below_heap hB2 HX.out
 obtain ⟨k0, -⟩:=box2v hb2
 have hw2:=Below.then HB1.out hB2
 have HW2:=Lib.hid hw2
 clear hB2 hb2 hw2 hn hm he HM
 by_cases h0 : ex = 0
 ·go_wp2_with fail
  refine (compared_any _ _ _ _).mono ?_
  rintro e w3 ⟨rfl,rfl⟩
  go_wp2_with fail
  refine (truth_any _ _).mono ?_
  rintro e w3 ⟨rfl,rfl⟩
  go_wp2_with fail
  go_ret2
  refine ⟨?_,HW2.out⟩
  unfold Ie.lnk
  rw [HEA.out]
  dsimp only
  rw [← HE.out,← HV.out,if_neg (fun h => h h0),HTW.out]
  rfl
 ·go_wp2_with fail
  go_ret2
  refine ⟨?_,HW2.out⟩
  unfold Ie.lnk
  rw [HEA.out]
  dsimp only
  rw [← HE.out,if_pos h0]
  rfl
theorem link_ge (s : ByteArray) (y : E) (v : Value) (a : Int) (w : World) (ha : ∀ W,Below w.heap.size w W → VM v y W) (hs : s = Ie.sGe) :
  Calls Tryz.prog 390 #[.agg #[.string s,v], .int .i64 a] w fun e w' => e = .returned (.tuple #[.int .i64 (Ie.lnk s y a).1, .int .i64 (Ie.lnk s y a).2]) ∧ Below w.heap.size w w':=by
 have hB1 : Below w.heap.size w (w.alloc (.cells #[.string s,v] 396)):=Below.alloc (Below.refl _ _) (Nat.le_refl _) _
 have hbx : (w.alloc (.cells #[.string s,v] 396)).heap[w.heap.size]? = some (.cells #[.string s,v] 396 (0,0)):=heap_alloc_new w _
 obtain ⟨t,p,f,rfl,hn,hm,he,hcl⟩:=ha _ hB1
 obtain ⟨ex,hex⟩ : ∃ ex,ex = (Ie.comes y).2:=⟨_,rfl⟩
 obtain ⟨vx,hvx⟩ : ∃ vx,vx = (Ie.comes y).1:=⟨_,rfl⟩
 have HM:=Lib.hid hcl
 have HB1:=Lib.hid hB1
 have HX:=Lib.hid hbx
 have HE:=Lib.hid hex
 have HV:=Lib.hid hvx
 clear hcl hB1 hbx hex hvx ha
 have eOr : (s.toList == [124,124]) = false:=lit_no (by rw [hs]; decide)
 have eAnd : (s.toList == [38,38]) = false:=lit_no (by rw [hs]; decide)
 have eEq : (s.toList == [61,61]) = false:=lit_no (by rw [hs]; decide)
 have eNe : (s.toList == [33,61]) = false:=lit_no (by rw [hs]; decide)
 have eLt : (s.toList == [60]) = false:=lit_no (by rw [hs]; decide)
 have eGt : (s.toList == [62]) = false:=lit_no (by rw [hs]; decide)
 have eLe : (s.toList == [60,61]) = false:=lit_no (by rw [hs]; decide)
 have eGe : (s.toList == [62,61]) = true:=lit_yes hs
 have eShl : (s.toList == [60,60]) = false:=lit_no (by rw [hs]; decide)
 have eShr : (s.toList == [62,62]) = false:=lit_no (by rw [hs]; decide)
 have eQuo : (s.toList == [47]) = false:=lit_no (by rw [hs]; decide)
 have eRem : (s.toList == [37]) = false:=lit_no (by rw [hs]; decide)
 have hea : Ie.early s a = none:=(if_neg (fun h => absurd h.1 (by rw [hs]; decide))).trans (if_neg (fun h => absurd h.1 (by rw [hs]; decide)))
 have HEA:=Lib.hid hea
 have htw : ∀ b,Ie.two s a b = (Ie.one (Ie.cmpB s a b),0):=two_cmp (by rw [hs]; decide) a
 have HTW:=Lib.hid htw
 clear hea hs htw
 go_enter Tryz.func390,Tryz.ntmps390
 go_wp2_with fail
 refine HM.out.mono ?_
 rintro e w2 ⟨rfl,hB2⟩
 rw [← HE.out,← HV.out]
 have hb2:=below_heap hB2 HX.out
 obtain ⟨k0, -⟩:=box2v hb2
 have hw2:=Below.then HB1.out hB2
 have HW2:=Lib.hid hw2
 clear hB2 hb2 hw2 hn hm he HM
 by_cases h0 : ex = 0
 ·go_wp2_with fail
  refine (compared_any _ _ _ _).mono ?_
  rintro e w3 ⟨rfl,rfl⟩
  go_wp2_with fail
  refine (truth_any _ _).mono ?_
  rintro e w3 ⟨rfl,rfl⟩
  go_wp2_with fail
  go_ret2
  refine ⟨?_,HW2.out⟩
  unfold Ie.lnk
  rw [HEA.out]
  dsimp only
  rw [← HE.out,← HV.out,if_neg (fun h => h h0),HTW.out]
  rfl
 ·go_wp2_with fail
  go_ret2
  refine ⟨?_,HW2.out⟩
  unfold Ie.lnk
  rw [HEA.out]
  dsimp only
  rw [← HE.out,if_pos h0]
  rfl
theorem link_shl (s : ByteArray) (y : E) (v : Value) (a : Int) (w : World) (ha : ∀ W,Below w.heap.size w W → VM v y W) (hs : s = Ie.sShl) :
  Calls Tryz.prog 390 #[.agg #[.string s,v], .int .i64 a] w fun e w' => e = .returned (.tuple #[.int .i64 (Ie.lnk s y a).1, .int .i64 (Ie.lnk s y a).2]) ∧ Below w.heap.size w w':=by
 have hB1 : Below w.heap.size w (w.alloc (.cells #[.string s,v] 396)):=Below.alloc (Below.refl _ _) (Nat.le_refl _) _
 have hbx : (w.alloc (.cells #[.string s,v] 396)).heap[w.heap.size]? = some (.cells #[.string s,v] 396 (0,0)):=heap_alloc_new w _
 obtain ⟨t,p,f,rfl,hn,hm,he,hcl⟩:=ha _ hB1
 obtain ⟨ex,hex⟩ : ∃ ex,ex = (Ie.comes y).2:=⟨_,rfl⟩
 obtain ⟨vx,hvx⟩ : ∃ vx,vx = (Ie.comes y).1:=⟨_,rfl⟩
 have HM:=Lib.hid hcl
 have HB1:=Lib.hid hB1
 have HX:=Lib.hid hbx
 have HE:=Lib.hid hex
 have HV:=Lib.hid hvx
 clear hcl hB1 hbx hex hvx ha
 have eOr : (s.toList == [124,124]) = false:=lit_no (by rw [hs]; decide)
 have eAnd : (s.toList == [38,38]) = false:=lit_no (by rw [hs]; decide)
 have eEq : (s.toList == [61,61]) = false:=lit_no (by rw [hs]; decide)
 have eNe : (s.toList == [33,61]) = false:=lit_no (by rw [hs]; decide)
 have eLt : (s.toList == [60]) = false:=lit_no (by rw [hs]; decide)
 have eGt : (s.toList == [62]) = false:=lit_no (by rw [hs]; decide)
 have eLe : (s.toList == [60,61]) = false:=lit_no (by rw [hs]; decide)
 have eGe : (s.toList == [62,61]) = false:=lit_no (by rw [hs]; decide)
 have eShl : (s.toList == [60,60]) = true:=lit_yes hs
 have eShr : (s.toList == [62,62]) = false:=lit_no (by rw [hs]; decide)
 have eQuo : (s.toList == [47]) = false:=lit_no (by rw [hs]; decide)
 have eRem : (s.toList == [37]) = false:=lit_no (by rw [hs]; decide)
 have hea : Ie.early s a = none:=(if_neg (fun h => absurd h.1 (by rw [hs]; decide))).trans (if_neg (fun h => absurd h.1 (by rw [hs]; decide)))
 have HEA:=Lib.hid hea
 have htw : ∀ b,Ie.two s a b = Ie.shf s a b:=two_shf (by rw [hs]; decide) a
 have HTW:=Lib.hid htw
 clear hea hs htw
 go_enter Tryz.func390,Tryz.ntmps390
 go_wp2_with fail
 refine HM.out.mono ?_
 rintro e w2 ⟨rfl,hB2⟩
 rw [← HE.out,← HV.out]
 have hb2:=below_heap hB2 HX.out
 obtain ⟨k0, -⟩:=box2v hb2
 have hw2:=Below.then HB1.out hB2
 have HW2:=Lib.hid hw2
 clear hB2 hb2 hw2 hn hm he HM
 by_cases h0 : ex = 0
 ·go_wp2_with fail
  refine (shifted_any _ _ _ _).mono ?_
  rintro e w3 ⟨rfl,rfl⟩
  go_wp2_with fail
  go_ret2
  refine ⟨?_,HW2.out⟩
  unfold Ie.lnk
  rw [HEA.out]
  dsimp only
  rw [← HE.out,← HV.out,if_neg (fun h => h h0),HTW.out]
  rfl
 ·go_wp2_with fail
  go_ret2
  refine ⟨?_,HW2.out⟩
  unfold Ie.lnk
  rw [HEA.out]
  dsimp only
  rw [← HE.out,if_pos h0]
  rfl
theorem link_shr (s : ByteArray) (y : E) (v : Value) (a : Int) (w : World) (ha : ∀ W,Below w.heap.size w W → VM v y W) (hs : s = Ie.sShr) :
  Calls Tryz.prog 390 #[.agg #[.string s,v], .int .i64 a] w fun e w' => e = .returned (.tuple #[.int .i64 (Ie.lnk s y a).1, .int .i64 (Ie.lnk s y a).2]) ∧ Below w.heap.size w w':=by
 have hB1 : Below w.heap.size w (w.alloc (.cells #[.string s,v] 396)):=Below.alloc (Below.refl _ _) (Nat.le_refl _) _
 have hbx : (w.alloc (.cells #[.string s,v] 396)).heap[w.heap.size]? = some (.cells #[.string s,v] 396 (0,0)):=heap_alloc_new w _
 obtain ⟨t,p,f,rfl,hn,hm,he,hcl⟩:=ha _ hB1
 obtain ⟨ex,hex⟩ : ∃ ex,ex = (Ie.comes y).2:=⟨_,rfl⟩
 obtain ⟨vx,hvx⟩ : ∃ vx,vx = (Ie.comes y).1:=⟨_,rfl⟩
 have HM:=Lib.hid hcl
 have HB1:=Lib.hid hB1
 have HX:=Lib.hid hbx
 have HE:=Lib.hid hex
 have HV:=Lib.hid hvx
 clear hcl hB1 hbx hex hvx ha
 have eOr : (s.toList == [124,124]) = false:=lit_no (by rw [hs]; decide)
 have eAnd : (s.toList == [38,38]) = false:=lit_no (by rw [hs]; decide)
 have eEq : (s.toList == [61,61]) = false:=lit_no (by rw [hs]; decide)
 have eNe : (s.toList == [33,61]) = false:=lit_no (by rw [hs]; decide)
 have eLt : (s.toList == [60]) = false:=lit_no (by rw [hs]; decide)
 have eGt : (s.toList == [62]) = false:=lit_no (by rw [hs]; decide)
 have eLe : (s.toList == [60,61]) = false:=lit_no (by rw [hs]; decide)
 have eGe : (s.toList == [62,61]) = false:=lit_no (by rw [hs]; decide)
 have eShl : (s.toList == [60,60]) = false:=lit_no (by rw [hs]; decide)
 have eShr : (s.toList == [62,62]) = true:=lit_yes hs
 have eQuo : (s.toList == [47]) = false:=lit_no (by rw [hs]; decide)
 have eRem : (s.toList == [37]) = false:=lit_no (by rw [hs]; decide)
 have hea : Ie.early s a = none:=(if_neg (fun h => absurd h.1 (by rw [hs]; decide))).trans (if_neg (fun h => absurd h.1 (by rw [hs]; decide)))
 have HEA:=Lib.hid hea
 have htw : ∀ b,Ie.two s a b = Ie.shf s a b:=two_shf (by rw [hs]; decide) a
 have HTW:=Lib.hid htw
 clear hea hs htw
 go_enter Tryz.func390,Tryz.ntmps390
 go_wp2_with fail
 refine HM.out.mono ?_
 rintro e w2 ⟨rfl,hB2⟩
 rw [← HE.out,← HV.out]
 have hb2:=below_heap hB2 HX.out
 obtain ⟨k0, -⟩:=box2v hb2
 have hw2:=Below.then HB1.out hB2
 have HW2:=Lib.hid hw2
 clear hB2 hb2 hw2 hn hm he HM
 by_cases h0 : ex = 0
 ·go_wp2_with fail
  refine (shifted_any _ _ _ _).mono ?_
  rintro e w3 ⟨rfl,rfl⟩
  go_wp2_with fail
  go_ret2
  refine ⟨?_,HW2.out⟩
  unfold Ie.lnk
  rw [HEA.out]
  dsimp only
  rw [← HE.out,← HV.out,if_neg (fun h => h h0),HTW.out]
  rfl
 ·go_wp2_with fail
  go_ret2
  refine ⟨?_,HW2.out⟩
  unfold Ie.lnk
  rw [HEA.out]
  dsimp only
  rw [← HE.out,if_pos h0]
  rfl
theorem link_quo (s : ByteArray) (y : E) (v : Value) (a : Int) (w : World) (ha : ∀ W,Below w.heap.size w W → VM v y W) (hs : s = Ie.sQuo) :
  Calls Tryz.prog 390 #[.agg #[.string s,v], .int .i64 a] w fun e w' => e = .returned (.tuple #[.int .i64 (Ie.lnk s y a).1, .int .i64 (Ie.lnk s y a).2]) ∧ Below w.heap.size w w':=by
 have hB1 : Below w.heap.size w (w.alloc (.cells #[.string s,v] 396)):=Below.alloc (Below.refl _ _) (Nat.le_refl _) _
 have hbx : (w.alloc (.cells #[.string s,v] 396)).heap[w.heap.size]? = some (.cells #[.string s,v] 396 (0,0)):=heap_alloc_new w _
 obtain ⟨t,p,f,rfl,hn,hm,he,hcl⟩:=ha _ hB1
 obtain ⟨ex,hex⟩ : ∃ ex,ex = (Ie.comes y).2:=⟨_,rfl⟩
 obtain ⟨vx,hvx⟩ : ∃ vx,vx = (Ie.comes y).1:=⟨_,rfl⟩
 have HM:=Lib.hid hcl
 have HB1:=Lib.hid hB1
 have HX:=Lib.hid hbx
 have HE:=Lib.hid hex
 have HV:=Lib.hid hvx
 clear hcl hB1 hbx hex hvx ha
 have eOr : (s.toList == [124,124]) = false:=lit_no (by rw [hs]; decide)
 have eAnd : (s.toList == [38,38]) = false:=lit_no (by rw [hs]; decide)
 have eEq : (s.toList == [61,61]) = false:=lit_no (by rw [hs]; decide)
 have eNe : (s.toList == [33,61]) = false:=lit_no (by rw [hs]; decide)
 have eLt : (s.toList == [60]) = false:=lit_no (by rw [hs]; decide)
 have eGt : (s.toList == [62]) = false:=lit_no (by rw [hs]; decide)
 have eLe : (s.toList == [60,61]) = false:=lit_no (by rw [hs]; decide)
 have eGe : (s.toList == [62,61]) = false:=lit_no (by rw [hs]; decide)
 have eShl : (s.toList == [60,60]) = false:=lit_no (by rw [hs]; decide)
 have eShr : (s.toList == [62,62]) = false:=lit_no (by rw [hs]; decide)
 have eQuo : (s.toList == [47]) = true:=lit_yes hs
 have eRem : (s.toList == [37]) = false:=lit_no (by rw [hs]; decide)
 have hea : Ie.early s a = none:=(if_neg (fun h => absurd h.1 (by rw [hs]; decide))).trans (if_neg (fun h => absurd h.1 (by rw [hs]; decide)))
 have HEA:=Lib.hid hea
 have htw : ∀ b,Ie.two s a b = Ie.dvd s a b:=two_dvd (by rw [hs]; decide) a
 have HTW:=Lib.hid htw
 clear hea hs htw
 go_enter Tryz.func390,Tryz.ntmps390
 go_wp2_with fail
 refine HM.out.mono ?_
 rintro e w2 ⟨rfl,hB2⟩
 rw [← HE.out,← HV.out]
 have hb2:=below_heap hB2 HX.out
 obtain ⟨k0, -⟩:=box2v hb2
 have hw2:=Below.then HB1.out hB2
 have HW2:=Lib.hid hw2
 clear hB2 hb2 hw2 hn hm he HM
 by_cases h0 : ex = 0
 ·go_wp2_with fail
  refine (divided_any _ _ _ _).mono ?_
  rintro e w3 ⟨rfl,rfl⟩
  go_wp2_with fail
  go_ret2
  refine ⟨?_,HW2.out⟩
  unfold Ie.lnk
  rw [HEA.out]
  dsimp only
  rw [← HE.out,← HV.out,if_neg (fun h => h h0),HTW.out]
  rfl
 ·go_wp2_with fail
  go_ret2
  refine ⟨?_,HW2.out⟩
  unfold Ie.lnk
  rw [HEA.out]
  dsimp only
  rw [← HE.out,if_pos h0]
  rfl
theorem link_rem (s : ByteArray) (y : E) (v : Value) (a : Int) (w : World) (ha : ∀ W,Below w.heap.size w W → VM v y W) (hs : s = Ie.sRem) :
  Calls Tryz.prog 390 #[.agg #[.string s,v], .int .i64 a] w fun e w' => e = .returned (.tuple #[.int .i64 (Ie.lnk s y a).1, .int .i64 (Ie.lnk s y a).2]) ∧ Below w.heap.size w w':=by
 have hB1 : Below w.heap.size w (w.alloc (.cells #[.string s,v] 396)):=Below.alloc (Below.refl _ _) (Nat.le_refl _) _
 have hbx : (w.alloc (.cells #[.string s,v] 396)).heap[w.heap.size]? = some (.cells #[.string s,v] 396 (0,0)):=heap_alloc_new w _
 obtain ⟨t,p,f,rfl,hn,hm,he,hcl⟩:=ha _ hB1
 obtain ⟨ex,hex⟩ : ∃ ex,ex = (Ie.comes y).2:=⟨_,rfl⟩
 obtain ⟨vx,hvx⟩ : ∃ vx,vx = (Ie.comes y).1:=⟨_,rfl⟩
 have HM:=Lib.hid hcl
 have HB1:=Lib.hid hB1
 have HX:=Lib.hid hbx
 have HE:=Lib.hid hex
 have HV:=Lib.hid hvx
 clear hcl hB1 hbx hex hvx ha
 have eOr : (s.toList == [124,124]) = false:=lit_no (by rw [hs]; decide)
 have eAnd : (s.toList == [38,38]) = false:=lit_no (by rw [hs]; decide)
 have eEq : (s.toList == [61,61]) = false:=lit_no (by rw [hs]; decide)
 have eNe : (s.toList == [33,61]) = false:=lit_no (by rw [hs]; decide)
 have eLt : (s.toList == [60]) = false:=lit_no (by rw [hs]; decide)
 have eGt : (s.toList == [62]) = false:=lit_no (by rw [hs]; decide)
 have eLe : (s.toList == [60,61]) = false:=lit_no (by rw [hs]; decide)
 have eGe : (s.toList == [62,61]) = false:=lit_no (by rw [hs]; decide)
 have eShl : (s.toList == [60,60]) = false:=lit_no (by rw [hs]; decide)
 have eShr : (s.toList == [62,62]) = false:=lit_no (by rw [hs]; decide)
 have eQuo : (s.toList == [47]) = false:=lit_no (by rw [hs]; decide)
 have eRem : (s.toList == [37]) = true:=lit_yes hs
 have hea : Ie.early s a = none:=(if_neg (fun h => absurd h.1 (by rw [hs]; decide))).trans (if_neg (fun h => absurd h.1 (by rw [hs]; decide)))
 have HEA:=Lib.hid hea
 have htw : ∀ b,Ie.two s a b = Ie.dvd s a b:=two_dvd (by rw [hs]; decide) a
 have HTW:=Lib.hid htw
 clear hea hs htw
 go_enter Tryz.func390,Tryz.ntmps390
 go_wp2_with fail
 refine HM.out.mono ?_
 rintro e w2 ⟨rfl,hB2⟩
 rw [← HE.out,← HV.out]
 have hb2:=below_heap hB2 HX.out
 obtain ⟨k0, -⟩:=box2v hb2
 have hw2:=Below.then HB1.out hB2
 have HW2:=Lib.hid hw2
 clear hB2 hb2 hw2 hn hm he HM
 by_cases h0 : ex = 0
 ·go_wp2_with fail
  refine (divided_any _ _ _ _).mono ?_
  rintro e w3 ⟨rfl,rfl⟩
  go_wp2_with fail
  go_ret2
  refine ⟨?_,HW2.out⟩
  unfold Ie.lnk
  rw [HEA.out]
  dsimp only
  rw [← HE.out,← HV.out,if_neg (fun h => h h0),HTW.out]
  rfl
 ·go_wp2_with fail
  go_ret2
  refine ⟨?_,HW2.out⟩
  unfold Ie.lnk
  rw [HEA.out]
  dsimp only
  rw [← HE.out,if_pos h0]
  rfl
theorem link_cnt (s : ByteArray) (y : E) (v : Value) (a : Int) (w : World) (ha : ∀ W,Below w.heap.size w W → VM v y W) (hs : s = Ie.sBar ∨ s = Ie.sHat ∨ s = Ie.sAmp ∨ s = Ie.sAdd ∨ s = Ie.sSub ∨ s = Ie.sMul) :
  Calls Tryz.prog 390 #[.agg #[.string s,v], .int .i64 a] w fun e w' => e = .returned (.tuple #[.int .i64 (Ie.lnk s y a).1, .int .i64 (Ie.lnk s y a).2]) ∧ Below w.heap.size w w':=by
 have hB1 : Below w.heap.size w (w.alloc (.cells #[.string s,v] 396)):=Below.alloc (Below.refl _ _) (Nat.le_refl _) _
 have hbx : (w.alloc (.cells #[.string s,v] 396)).heap[w.heap.size]? = some (.cells #[.string s,v] 396 (0,0)):=heap_alloc_new w _
 obtain ⟨t,p,f,rfl,hn,hm,he,hcl⟩:=ha _ hB1
 obtain ⟨ex,hex⟩ : ∃ ex,ex = (Ie.comes y).2:=⟨_,rfl⟩
 obtain ⟨vx,hvx⟩ : ∃ vx,vx = (Ie.comes y).1:=⟨_,rfl⟩
 have HM:=Lib.hid hcl
 have HB1:=Lib.hid hB1
 have HX:=Lib.hid hbx
 have HE:=Lib.hid hex
 have HV:=Lib.hid hvx
 clear hcl hB1 hbx hex hvx ha
 have eOr : (s.toList == [124,124]) = false:=lit_no (by rcases hs with rfl | rfl | rfl | rfl | rfl | rfl <;> decide)
 have eAnd : (s.toList == [38,38]) = false:=lit_no (by rcases hs with rfl | rfl | rfl | rfl | rfl | rfl <;> decide)
 have eEq : (s.toList == [61,61]) = false:=lit_no (by rcases hs with rfl | rfl | rfl | rfl | rfl | rfl <;> decide)
 have eNe : (s.toList == [33,61]) = false:=lit_no (by rcases hs with rfl | rfl | rfl | rfl | rfl | rfl <;> decide)
 have eLt : (s.toList == [60]) = false:=lit_no (by rcases hs with rfl | rfl | rfl | rfl | rfl | rfl <;> decide)
 have eGt : (s.toList == [62]) = false:=lit_no (by rcases hs with rfl | rfl | rfl | rfl | rfl | rfl <;> decide)
 have eLe : (s.toList == [60,61]) = false:=lit_no (by rcases hs with rfl | rfl | rfl | rfl | rfl | rfl <;> decide)
 have eGe : (s.toList == [62,61]) = false:=lit_no (by rcases hs with rfl | rfl | rfl | rfl | rfl | rfl <;> decide)
 have eShl : (s.toList == [60,60]) = false:=lit_no (by rcases hs with rfl | rfl | rfl | rfl | rfl | rfl <;> decide)
 have eShr : (s.toList == [62,62]) = false:=lit_no (by rcases hs with rfl | rfl | rfl | rfl | rfl | rfl <;> decide)
 have eQuo : (s.toList == [47]) = false:=lit_no (by rcases hs with rfl | rfl | rfl | rfl | rfl | rfl <;> decide)
 have eRem : (s.toList == [37]) = false:=lit_no (by rcases hs with rfl | rfl | rfl | rfl | rfl | rfl <;> decide)
 have hea : Ie.early s a = none:=(if_neg (fun h => absurd h.1 (by rcases hs with rfl | rfl | rfl | rfl | rfl | rfl <;> decide))).trans (if_neg (fun h => absurd h.1 (by rcases hs with rfl | rfl | rfl | rfl | rfl | rfl <;> decide)))
 have HEA:=Lib.hid hea
 have htw : ∀ b,Ie.two s a b = (Ie.cnt s a b,0):=two_cnt hs a
 have HTW:=Lib.hid htw
 clear hea hs htw
 go_enter Tryz.func390,Tryz.ntmps390
 go_wp2_with fail
 refine HM.out.mono ?_
 rintro e w2 ⟨rfl,hB2⟩
 rw [← HE.out,← HV.out]
 have hb2:=below_heap hB2 HX.out
 obtain ⟨k0, -⟩:=box2v hb2
 have hw2:=Below.then HB1.out hB2
 have HW2:=Lib.hid hw2
 clear hB2 hb2 hw2 hn hm he HM
 by_cases h0 : ex = 0
 ·go_wp2_with fail
  refine (counted_any _ _ _ _).mono ?_
  rintro e w3 ⟨rfl,rfl⟩
  go_wp2_with fail
  go_ret2
  refine ⟨?_,HW2.out⟩
  unfold Ie.lnk
  rw [HEA.out]
  dsimp only
  rw [← HE.out,← HV.out,if_neg (fun h => h h0),HTW.out]
  rfl
 ·go_wp2_with fail
  go_ret2
  refine ⟨?_,HW2.out⟩
  unfold Ie.lnk
  rw [HEA.out]
  dsimp only
  rw [← HE.out,if_pos h0]
  rfl
theorem link_any (s : ByteArray) (y : E) (v : Value) (a : Int) (w : World) (ha : ∀ W,Below w.heap.size w W → VM v y W) (hs : Ie.lvS s ≠ 0) :
  Calls Tryz.prog 390 #[.agg #[.string s,v], .int .i64 a] w fun e w' => e = .returned (.tuple #[.int .i64 (Ie.lnk s y a).1, .int .i64 (Ie.lnk s y a).2]) ∧ Below w.heap.size w w':=by
 rcases lv_cases hs with h | h | (h | h | h | h | h | h) | (h | h) | (h | h) | h
 ·exact link_or s y v a w ha h
 ·exact link_and s y v a w ha h
 ·exact link_eq s y v a w ha h
 ·exact link_ne s y v a w ha h
 ·exact link_lt s y v a w ha h
 ·exact link_gt s y v a w ha h
 ·exact link_le s y v a w ha h
 ·exact link_ge s y v a w ha h
 ·exact link_shl s y v a w ha h
 ·exact link_shr s y v a w ha h
 ·exact link_quo s y v a w ha h
 ·exact link_rem s y v a w ha h
 ·exact link_cnt s y v a w ha h
end
end Go.Proofs.YthekfpgegiffoaaGreatDoor
