/- What is proved: what comes of two operands by a sign, as the program works it out; a link, a chain; any expression that can be asked. (and what stands with it) -/
import Derived.Test.YtognifnalfjdgaaGreatDoorGe
import Derived.Deep.AppendLies
import Derived.Test.YtognifnalfjdgaaGreatDoorGd

/- What is proved: what comes of two operands by a sign, as the program works it out; a link, a chain; any expression that can be asked. -/
namespace Go.Proofs.YtognifnalfjdgaaGreatDoor
open Go.RowKit Go.Shelf
open Ie (E)

def Ie.cmpB (s : ByteArray) (a b : Int) : Bool :=
  if s = sEq then a == b else if s = sNe then a != b else if s = sLt then decide (a < b) else if s = sGt then decide (b < a) else if s = sLe then decide (a ≤ b) else decide (b ≤ a)
def Ie.shf (s : ByteArray) (a b : Int) : Int × Int := if b < 0 ∨ 63 < b then (0, 93) else if s = sShl then (w64 (a * 2 ^ b.toNat), 0) else (a / 2 ^ b.toNat, 0)
def Ie.dvd (s : ByteArray) (a b : Int) : Int × Int := if b = 0 then (0, 92) else if s = sQuo then (w64 (a.tdiv b), 0) else (a.tmod b, 0)
def Ie.cnt (s : ByteArray) (a b : Int) : Int :=
  if s = sBar then bits (· ||| ·) a b else if s = sHat then bits (· ^^^ ·) a b else if s = sAmp then bits (· &&& ·) a b else if s = sAdd then w64 (a + b) else if s = sSub then w64 (a - b) else w64 (a * b)

set_option maxRecDepth 100000 in
set_option maxHeartbeats 1000000 in
theorem compared_any (s : ByteArray) (a b : Int) (w : World) : Calls Tryz.prog 146 #[.string s, .int .i64 a, .int .i64 b] w fun e w' => e = .returned (.bool (Ie.cmpB s a b)) ∧ w' = w := by
  by_cases h0 : s = Ie.sEq
  · have e0 : (s.toList == [61, 61]) = true := lit_yes h0
    have G0 := Lib.hid h0
    clear h0
    go_enter Tryz.func146, Tryz.ntmps146
    go_wp2_with fail
    go_ret
    refine ⟨?_, rfl⟩
    unfold Ie.cmpB
    rw [if_pos G0.out]
    try rfl
  have e0 : (s.toList == [61, 61]) = false := lit_no h0
  have G0 := Lib.hid h0
  clear h0
  by_cases h1 : s = Ie.sNe
  · have e1 : (s.toList == [33, 61]) = true := lit_yes h1
    have G1 := Lib.hid h1
    clear h1
    go_enter Tryz.func146, Tryz.ntmps146
    go_wp2_with fail
    go_ret
    refine ⟨?_, rfl⟩
    unfold Ie.cmpB
    rw [if_neg G0.out, if_pos G1.out]
    try rfl
  have e1 : (s.toList == [33, 61]) = false := lit_no h1
  have G1 := Lib.hid h1
  clear h1
  by_cases h2 : s = Ie.sLt
  · have e2 : (s.toList == [60]) = true := lit_yes h2
    have G2 := Lib.hid h2
    clear h2
    go_enter Tryz.func146, Tryz.ntmps146
    go_wp2_with fail
    go_ret
    refine ⟨?_, rfl⟩
    unfold Ie.cmpB
    rw [if_neg G0.out, if_neg G1.out, if_pos G2.out]
    try rfl
  have e2 : (s.toList == [60]) = false := lit_no h2
  have G2 := Lib.hid h2
  clear h2
  by_cases h3 : s = Ie.sGt
  · have e3 : (s.toList == [62]) = true := lit_yes h3
    have G3 := Lib.hid h3
    clear h3
    go_enter Tryz.func146, Tryz.ntmps146
    go_wp2_with fail
    go_ret
    refine ⟨?_, rfl⟩
    unfold Ie.cmpB
    rw [if_neg G0.out, if_neg G1.out, if_neg G2.out, if_pos G3.out]
    try rfl
  have e3 : (s.toList == [62]) = false := lit_no h3
  have G3 := Lib.hid h3
  clear h3
  by_cases h4 : s = Ie.sLe
  · have e4 : (s.toList == [60, 61]) = true := lit_yes h4
    have G4 := Lib.hid h4
    clear h4
    go_enter Tryz.func146, Tryz.ntmps146
    go_wp2_with fail
    go_ret
    refine ⟨?_, rfl⟩
    unfold Ie.cmpB
    rw [if_neg G0.out, if_neg G1.out, if_neg G2.out, if_neg G3.out, if_pos G4.out]
    try rfl
  have e4 : (s.toList == [60, 61]) = false := lit_no h4
  have G4 := Lib.hid h4
  clear h4
  go_enter Tryz.func146, Tryz.ntmps146
  go_wp2_with fail
  go_ret
  refine ⟨?_, rfl⟩
  unfold Ie.cmpB
  rw [if_neg G0.out, if_neg G1.out, if_neg G2.out, if_neg G3.out, if_neg G4.out]
  try rfl

set_option maxRecDepth 100000 in
set_option maxHeartbeats 1000000 in
theorem counted_any (s : ByteArray) (a b : Int) (w : World) : Calls Tryz.prog 149 #[.string s, .int .i64 a, .int .i64 b] w fun e w' => e = .returned (.int .i64 (Ie.cnt s a b)) ∧ w' = w := by
  by_cases h0 : s = Ie.sBar
  · have e0 : (s.toList == [124]) = true := lit_yes h0
    have G0 := Lib.hid h0
    clear h0
    go_enter Tryz.func149, Tryz.ntmps149
    go_wp2_with fail
    go_ret
    refine ⟨?_, rfl⟩
    unfold Ie.cnt
    rw [if_pos G0.out]
    skip
    try rfl
  have e0 : (s.toList == [124]) = false := lit_no h0
  have G0 := Lib.hid h0
  clear h0
  by_cases h1 : s = Ie.sHat
  · have e1 : (s.toList == [94]) = true := lit_yes h1
    have G1 := Lib.hid h1
    clear h1
    go_enter Tryz.func149, Tryz.ntmps149
    go_wp2_with fail
    go_ret
    refine ⟨?_, rfl⟩
    unfold Ie.cnt
    rw [if_neg G0.out, if_pos G1.out]
    skip
    try rfl
  have e1 : (s.toList == [94]) = false := lit_no h1
  have G1 := Lib.hid h1
  clear h1
  by_cases h2 : s = Ie.sAmp
  · have e2 : (s.toList == [38]) = true := lit_yes h2
    have G2 := Lib.hid h2
    clear h2
    go_enter Tryz.func149, Tryz.ntmps149
    go_wp2_with fail
    go_ret
    refine ⟨?_, rfl⟩
    unfold Ie.cnt
    rw [if_neg G0.out, if_neg G1.out, if_pos G2.out]
    skip
    try rfl
  have e2 : (s.toList == [38]) = false := lit_no h2
  have G2 := Lib.hid h2
  clear h2
  by_cases h3 : s = Ie.sAdd
  · have e3 : (s.toList == [43]) = true := lit_yes h3
    have G3 := Lib.hid h3
    clear h3
    go_enter Tryz.func149, Tryz.ntmps149
    go_wp2_with fail
    go_ret
    refine ⟨?_, rfl⟩
    unfold Ie.cnt
    rw [if_neg G0.out, if_neg G1.out, if_neg G2.out, if_pos G3.out]
    try rw [← wrap64_w]
    try rfl
  have e3 : (s.toList == [43]) = false := lit_no h3
  have G3 := Lib.hid h3
  clear h3
  by_cases h4 : s = Ie.sSub
  · have e4 : (s.toList == [45]) = true := lit_yes h4
    have G4 := Lib.hid h4
    clear h4
    go_enter Tryz.func149, Tryz.ntmps149
    go_wp2_with fail
    go_ret
    refine ⟨?_, rfl⟩
    unfold Ie.cnt
    rw [if_neg G0.out, if_neg G1.out, if_neg G2.out, if_neg G3.out, if_pos G4.out]
    try rw [← wrap64_w]
    try rfl
  have e4 : (s.toList == [45]) = false := lit_no h4
  have G4 := Lib.hid h4
  clear h4
  go_enter Tryz.func149, Tryz.ntmps149
  go_wp2_with fail
  go_ret
  refine ⟨?_, rfl⟩
  unfold Ie.cnt
  rw [if_neg G0.out, if_neg G1.out, if_neg G2.out, if_neg G3.out, if_neg G4.out]
  try rw [← wrap64_w]
  try rfl

set_option maxRecDepth 100000 in
set_option maxHeartbeats 1000000 in
theorem shifted_any (s : ByteArray) (a b : Int) (w : World) : Calls Tryz.prog 147 #[.string s, .int .i64 a, .int .i64 b] w fun e w' => e = .returned (.tuple #[.int .i64 (Ie.shf s a b).1, .int .i64 (Ie.shf s a b).2]) ∧ w' = w := by
  by_cases hb : b < 0 ∨ 63 < b
  · have HB := Lib.hid hb
    go_enter Tryz.func147, Tryz.ntmps147
    rcases hb with hb | hb
    all_goals
      go_wp2_with fail
      go_ret2
      refine ⟨?_, rfl⟩
      unfold Ie.shf
      rw [if_pos HB.out]
      rfl
  · have HB := Lib.hid hb
    have z1 : 0 ≤ b := by omega
    have z2 : b ≤ 63 := by omega
    have z3 : (min b.toNat 64) = b.toNat := by omega
    clear hb
    by_cases h0 : s = Ie.sShl
    · have e0 : (s.toList == [60, 60]) = true := lit_yes h0
      have G0 := Lib.hid h0
      clear h0
      go_enter Tryz.func147, Tryz.ntmps147
      go_wp2_with fail
      go_ret2
      refine ⟨?_, rfl⟩
      unfold Ie.shf
      rw [if_neg HB.out, if_pos G0.out]
      rw [← wrap64_w]
      rfl
    · have e0 : (s.toList == [60, 60]) = false := lit_no h0
      have G0 := Lib.hid h0
      clear h0
      go_enter Tryz.func147, Tryz.ntmps147
      go_wp2_with fail
      go_ret2
      refine ⟨?_, rfl⟩
      unfold Ie.shf
      rw [if_neg HB.out, if_neg G0.out]
      rfl

set_option maxRecDepth 100000 in
set_option maxHeartbeats 1000000 in
theorem divided_any (s : ByteArray) (a b : Int) (w : World) : Calls Tryz.prog 148 #[.string s, .int .i64 a, .int .i64 b] w fun e w' => e = .returned (.tuple #[.int .i64 (Ie.dvd s a b).1, .int .i64 (Ie.dvd s a b).2]) ∧ w' = w := by
  by_cases hb : b = 0
  · have HB := Lib.hid hb
    go_enter Tryz.func148, Tryz.ntmps148
    subst hb
    all_goals
      go_wp2_with fail
      go_ret2
      refine ⟨?_, rfl⟩
      rw [show Ie.dvd s a 0 = (0, 92) from if_pos rfl]
      rfl
  · have HB := Lib.hid hb
    by_cases h0 : s = Ie.sQuo
    · have e0 : (s.toList == [47]) = true := lit_yes h0
      have G0 := Lib.hid h0
      clear h0
      go_enter Tryz.func148, Tryz.ntmps148
      go_wp2_with fail
      go_ret2
      refine ⟨?_, rfl⟩
      unfold Ie.dvd
      rw [if_neg HB.out, if_pos G0.out]
      try rw [← wrap64_w]
      rfl
    · have e0 : (s.toList == [47]) = false := lit_no h0
      have G0 := Lib.hid h0
      clear h0
      go_enter Tryz.func148, Tryz.ntmps148
      go_wp2_with fail
      go_ret2
      refine ⟨?_, rfl⟩
      unfold Ie.dvd
      rw [if_neg HB.out, if_neg G0.out]
      rfl

/-- What a number ahead and this link come to. -/
def Ie.lnk (s : ByteArray) (y : E) (a : Int) : Int × Int :=
  match early s a with
  | some n => (n, 0)
  | none => if (comes y).2 ≠ 0 then (0, (comes y).2) else two s a (comes y).1

theorem two_cmp {s : ByteArray} (h : s = Ie.sEq ∨ s = Ie.sNe ∨ s = Ie.sLt ∨ s = Ie.sGt ∨ s = Ie.sLe ∨ s = Ie.sGe) (a b : Int) : Ie.two s a b = (Ie.one (Ie.cmpB s a b), 0) := by
  rcases h with rfl | rfl | rfl | rfl | rfl | rfl
  · rfl
  · show (Ie.one (decide (a ≠ b)), (0 : Int)) = (Ie.one (a != b), 0)
    have e : (a != b) = decide (a ≠ b) := by by_cases h : a = b <;> simp [h]
    rw [e]
  · rfl
  · rfl
  · rfl
  · rfl
theorem two_shf {s : ByteArray} (h : s = Ie.sShl ∨ s = Ie.sShr) (a b : Int) : Ie.two s a b = Ie.shf s a b := by
  rcases h with rfl | rfl
  · rfl
  · rfl
theorem two_dvd {s : ByteArray} (h : s = Ie.sQuo ∨ s = Ie.sRem) (a b : Int) : Ie.two s a b = Ie.dvd s a b := by
  rcases h with rfl | rfl
  · rfl
  · rfl
theorem two_cnt {s : ByteArray} (h : s = Ie.sBar ∨ s = Ie.sHat ∨ s = Ie.sAmp ∨ s = Ie.sAdd ∨ s = Ie.sSub ∨ s = Ie.sMul) (a b : Int) : Ie.two s a b = (Ie.cnt s a b, 0) := by
  rcases h with rfl | rfl | rfl | rfl | rfl | rfl <;> rfl
theorem lv_cases {s : ByteArray} (h : Ie.lvS s ≠ 0) : s = Ie.sOr ∨ s = Ie.sAnd ∨ (s = Ie.sEq ∨ s = Ie.sNe ∨ s = Ie.sLt ∨ s = Ie.sGt ∨ s = Ie.sLe ∨ s = Ie.sGe) ∨ (s = Ie.sShl ∨ s = Ie.sShr) ∨ (s = Ie.sQuo ∨ s = Ie.sRem) ∨
    (s = Ie.sBar ∨ s = Ie.sHat ∨ s = Ie.sAmp ∨ s = Ie.sAdd ∨ s = Ie.sSub ∨ s = Ie.sMul) := by
  by_cases h0 : s = Ie.sOr
  · exact Or.inl h0
  by_cases h1 : s = Ie.sAnd
  · exact Or.inr (Or.inl h1)
  by_cases h2 : s = Ie.sBar
  · exact Or.inr (Or.inr (Or.inr (Or.inr (Or.inr (Or.inl h2)))))
  by_cases h3 : s = Ie.sHat
  · exact Or.inr (Or.inr (Or.inr (Or.inr (Or.inr (Or.inr (Or.inl h3))))))
  by_cases h4 : s = Ie.sAmp
  · exact Or.inr (Or.inr (Or.inr (Or.inr (Or.inr (Or.inr (Or.inr (Or.inl h4)))))))
  by_cases h5 : s = Ie.sEq
  · exact Or.inr (Or.inr (Or.inl (Or.inl h5)))
  by_cases h6 : s = Ie.sNe
  · exact Or.inr (Or.inr (Or.inl (Or.inr (Or.inl h6))))
  by_cases h7 : s = Ie.sLt
  · exact Or.inr (Or.inr (Or.inl (Or.inr (Or.inr (Or.inl h7)))))
  by_cases h8 : s = Ie.sGt
  · exact Or.inr (Or.inr (Or.inl (Or.inr (Or.inr (Or.inr (Or.inl h8))))))
  by_cases h9 : s = Ie.sLe
  · exact Or.inr (Or.inr (Or.inl (Or.inr (Or.inr (Or.inr (Or.inr (Or.inl h9)))))))
  by_cases h10 : s = Ie.sGe
  · exact Or.inr (Or.inr (Or.inl (Or.inr (Or.inr (Or.inr (Or.inr (Or.inr h10)))))))
  by_cases h11 : s = Ie.sShl
  · exact Or.inr (Or.inr (Or.inr (Or.inl (Or.inl h11))))
  by_cases h12 : s = Ie.sShr
  · exact Or.inr (Or.inr (Or.inr (Or.inl (Or.inr h12))))
  by_cases h13 : s = Ie.sAdd
  · exact Or.inr (Or.inr (Or.inr (Or.inr (Or.inr (Or.inr (Or.inr (Or.inr (Or.inl h13))))))))
  by_cases h14 : s = Ie.sSub
  · exact Or.inr (Or.inr (Or.inr (Or.inr (Or.inr (Or.inr (Or.inr (Or.inr (Or.inr (Or.inl h14)))))))))
  by_cases h15 : s = Ie.sMul
  · exact Or.inr (Or.inr (Or.inr (Or.inr (Or.inr (Or.inr (Or.inr (Or.inr (Or.inr (Or.inr h15)))))))))
  by_cases h16 : s = Ie.sQuo
  · exact Or.inr (Or.inr (Or.inr (Or.inr (Or.inl (Or.inl h16)))))
  by_cases h17 : s = Ie.sRem
  · exact Or.inr (Or.inr (Or.inr (Or.inr (Or.inl (Or.inr h17)))))
  refine absurd ?_ h
  unfold Ie.lvS
  rw [if_neg h0, if_neg h1, if_neg h2, if_neg h3, if_neg h4, if_neg h5, if_neg h6, if_neg h7, if_neg h8, if_neg h9, if_neg h10, if_neg h11, if_neg h12, if_neg h13, if_neg h14, if_neg h15, if_neg h16, if_neg h17]
set_option maxRecDepth 100000 in
set_option maxHeartbeats 2000000 in
theorem link_or (s : ByteArray) (y : E) (v : Value) (a : Int) (w : World) (ha : ∀ W, Below w.heap.size w W → VM v y W) (hs : s = Ie.sOr) :
    Calls Tryz.prog 143 #[.agg #[.string s, v], .int .i64 a] w fun e w' => e = .returned (.tuple #[.int .i64 (Ie.lnk s y a).1, .int .i64 (Ie.lnk s y a).2]) ∧ Below w.heap.size w w' := by
  have hB1 : Below w.heap.size w (w.alloc (.cells #[.string s, v] 122)) := Below.alloc (Below.refl _ _) (Nat.le_refl _) _
  have hbx : (w.alloc (.cells #[.string s, v] 122)).heap[w.heap.size]? = some (.cells #[.string s, v] 122 (0, 0)) := heap_alloc_new w _
  obtain ⟨t, p, f, rfl, hn, hm, he, hcl⟩ := ha _ hB1
  obtain ⟨ex, hex⟩ : ∃ ex, ex = (Ie.comes y).2 := ⟨_, rfl⟩
  obtain ⟨vx, hvx⟩ : ∃ vx, vx = (Ie.comes y).1 := ⟨_, rfl⟩
  have HM := Lib.hid hcl
  have HB1 := Lib.hid hB1
  have HX := Lib.hid hbx
  have HE := Lib.hid hex
  have HV := Lib.hid hvx
  clear hcl hB1 hbx hex hvx ha
  have eOr : (s.toList == [124, 124]) = true := lit_yes hs
  have eAnd : (s.toList == [38, 38]) = false := lit_no (by rw [hs]; decide)
  have eEq : (s.toList == [61, 61]) = false := lit_no (by rw [hs]; decide)
  have eNe : (s.toList == [33, 61]) = false := lit_no (by rw [hs]; decide)
  have eLt : (s.toList == [60]) = false := lit_no (by rw [hs]; decide)
  have eGt : (s.toList == [62]) = false := lit_no (by rw [hs]; decide)
  have eLe : (s.toList == [60, 61]) = false := lit_no (by rw [hs]; decide)
  have eGe : (s.toList == [62, 61]) = false := lit_no (by rw [hs]; decide)
  have eShl : (s.toList == [60, 60]) = false := lit_no (by rw [hs]; decide)
  have eShr : (s.toList == [62, 62]) = false := lit_no (by rw [hs]; decide)
  have eQuo : (s.toList == [47]) = false := lit_no (by rw [hs]; decide)
  have eRem : (s.toList == [37]) = false := lit_no (by rw [hs]; decide)
  by_cases hz : a ≠ 0
  · have hea : Ie.early s a = some 1 := by rw [hs]; exact if_pos ⟨rfl, hz⟩
    have HEA := Lib.hid hea
    clear hea hs
    go_enter Tryz.func143, Tryz.ntmps143
    go_wp2_with fail
    go_ret2
    refine ⟨?_, HB1.out⟩
    unfold Ie.lnk
    rw [HEA.out]
    rfl
  have hea : Ie.early s a = none := by rw [hs]; exact (if_neg (fun h => hz h.2)).trans (if_neg (fun h => absurd h.1 (by decide)))
  have htw : ∀ b, Ie.two s a b = (Ie.one (b != 0), 0) := fun b => by
    rw [hs]
    show (Ie.one (decide (b ≠ 0)), (0 : Int)) = _
    by_cases hb : b = 0
    · rw [hb]; rfl
    · have e1 : (b != 0) = true := by simpa using hb
      have e2 : decide (b ≠ 0) = true := by simpa using hb
      rw [e1, e2]
  have HEA := Lib.hid hea
  have HTW := Lib.hid htw
  clear hea hs htw
  have hz' : a = 0 := Decidable.not_not.1 hz
  subst hz'
  go_enter Tryz.func143, Tryz.ntmps143
  go_wp2_with fail
  refine HM.out.mono ?_
  rintro e w2 ⟨rfl, hB2⟩
  rw [← HE.out, ← HV.out]
  have hb2 := below_heap hB2 HX.out
  obtain ⟨k0, -⟩ := box2v hb2
  have hw2 := Below.then HB1.out hB2
  have HW2 := Lib.hid hw2
  clear hB2 hb2 hw2 hn hm he HM
  by_cases h0 : ex = 0
  · go_wp2_with fail
    refine (truth_any _ _).mono ?_
    rintro e w3 ⟨rfl, rfl⟩
    go_wp2_with fail
    go_ret2
    refine ⟨?_, HW2.out⟩
    unfold Ie.lnk
    rw [HEA.out]
    dsimp only
    rw [← HE.out, ← HV.out, if_neg (fun h => h h0), HTW.out]
    rfl
  · go_wp2_with fail
    go_ret2
    refine ⟨?_, HW2.out⟩
    unfold Ie.lnk
    rw [HEA.out]
    dsimp only
    rw [← HE.out, if_pos h0]
    rfl
set_option maxRecDepth 100000 in
set_option maxHeartbeats 2000000 in
theorem link_and (s : ByteArray) (y : E) (v : Value) (a : Int) (w : World) (ha : ∀ W, Below w.heap.size w W → VM v y W) (hs : s = Ie.sAnd) :
    Calls Tryz.prog 143 #[.agg #[.string s, v], .int .i64 a] w fun e w' => e = .returned (.tuple #[.int .i64 (Ie.lnk s y a).1, .int .i64 (Ie.lnk s y a).2]) ∧ Below w.heap.size w w' := by
  have hB1 : Below w.heap.size w (w.alloc (.cells #[.string s, v] 122)) := Below.alloc (Below.refl _ _) (Nat.le_refl _) _
  have hbx : (w.alloc (.cells #[.string s, v] 122)).heap[w.heap.size]? = some (.cells #[.string s, v] 122 (0, 0)) := heap_alloc_new w _
  obtain ⟨t, p, f, rfl, hn, hm, he, hcl⟩ := ha _ hB1
  obtain ⟨ex, hex⟩ : ∃ ex, ex = (Ie.comes y).2 := ⟨_, rfl⟩
  obtain ⟨vx, hvx⟩ : ∃ vx, vx = (Ie.comes y).1 := ⟨_, rfl⟩
  have HM := Lib.hid hcl
  have HB1 := Lib.hid hB1
  have HX := Lib.hid hbx
  have HE := Lib.hid hex
  have HV := Lib.hid hvx
  clear hcl hB1 hbx hex hvx ha
  have eOr : (s.toList == [124, 124]) = false := lit_no (by rw [hs]; decide)
  have eAnd : (s.toList == [38, 38]) = true := lit_yes hs
  have eEq : (s.toList == [61, 61]) = false := lit_no (by rw [hs]; decide)
  have eNe : (s.toList == [33, 61]) = false := lit_no (by rw [hs]; decide)
  have eLt : (s.toList == [60]) = false := lit_no (by rw [hs]; decide)
  have eGt : (s.toList == [62]) = false := lit_no (by rw [hs]; decide)
  have eLe : (s.toList == [60, 61]) = false := lit_no (by rw [hs]; decide)
  have eGe : (s.toList == [62, 61]) = false := lit_no (by rw [hs]; decide)
  have eShl : (s.toList == [60, 60]) = false := lit_no (by rw [hs]; decide)
  have eShr : (s.toList == [62, 62]) = false := lit_no (by rw [hs]; decide)
  have eQuo : (s.toList == [47]) = false := lit_no (by rw [hs]; decide)
  have eRem : (s.toList == [37]) = false := lit_no (by rw [hs]; decide)
  by_cases hz : a = 0
  · have hea : Ie.early s a = some 0 := by rw [hs]; exact (if_neg (fun h => absurd h.1 (by decide))).trans (if_pos ⟨rfl, hz⟩)
    have HEA := Lib.hid hea
    clear hea hs
    go_enter Tryz.func143, Tryz.ntmps143
    go_wp2_with fail
    go_ret2
    refine ⟨?_, HB1.out⟩
    unfold Ie.lnk
    rw [HEA.out]
    rfl
  have hea : Ie.early s a = none := by rw [hs]; exact (if_neg (fun h => absurd h.1 (by decide))).trans (if_neg (fun h => hz h.2))
  have htw : ∀ b, Ie.two s a b = (Ie.one (b != 0), 0) := fun b => by
    rw [hs]
    show (Ie.one (decide (b ≠ 0)), (0 : Int)) = _
    by_cases hb : b = 0
    · rw [hb]; rfl
    · have e1 : (b != 0) = true := by simpa using hb
      have e2 : decide (b ≠ 0) = true := by simpa using hb
      rw [e1, e2]
  have HEA := Lib.hid hea
  have HTW := Lib.hid htw
  clear hea hs htw
  go_enter Tryz.func143, Tryz.ntmps143
  go_wp2_with fail
  refine HM.out.mono ?_
  rintro e w2 ⟨rfl, hB2⟩
  rw [← HE.out, ← HV.out]
  have hb2 := below_heap hB2 HX.out
  obtain ⟨k0, -⟩ := box2v hb2
  have hw2 := Below.then HB1.out hB2
  have HW2 := Lib.hid hw2
  clear hB2 hb2 hw2 hn hm he HM
  by_cases h0 : ex = 0
  · go_wp2_with fail
    refine (truth_any _ _).mono ?_
    rintro e w3 ⟨rfl, rfl⟩
    go_wp2_with fail
    go_ret2
    refine ⟨?_, HW2.out⟩
    unfold Ie.lnk
    rw [HEA.out]
    dsimp only
    rw [← HE.out, ← HV.out, if_neg (fun h => h h0), HTW.out]
    rfl
  · go_wp2_with fail
    go_ret2
    refine ⟨?_, HW2.out⟩
    unfold Ie.lnk
    rw [HEA.out]
    dsimp only
    rw [← HE.out, if_pos h0]
    rfl
set_option maxRecDepth 100000 in
set_option maxHeartbeats 2000000 in
theorem link_eq (s : ByteArray) (y : E) (v : Value) (a : Int) (w : World) (ha : ∀ W, Below w.heap.size w W → VM v y W) (hs : s = Ie.sEq) :
    Calls Tryz.prog 143 #[.agg #[.string s, v], .int .i64 a] w fun e w' => e = .returned (.tuple #[.int .i64 (Ie.lnk s y a).1, .int .i64 (Ie.lnk s y a).2]) ∧ Below w.heap.size w w' := by
  have hB1 : Below w.heap.size w (w.alloc (.cells #[.string s, v] 122)) := Below.alloc (Below.refl _ _) (Nat.le_refl _) _
  have hbx : (w.alloc (.cells #[.string s, v] 122)).heap[w.heap.size]? = some (.cells #[.string s, v] 122 (0, 0)) := heap_alloc_new w _
  obtain ⟨t, p, f, rfl, hn, hm, he, hcl⟩ := ha _ hB1
  obtain ⟨ex, hex⟩ : ∃ ex, ex = (Ie.comes y).2 := ⟨_, rfl⟩
  obtain ⟨vx, hvx⟩ : ∃ vx, vx = (Ie.comes y).1 := ⟨_, rfl⟩
  have HM := Lib.hid hcl
  have HB1 := Lib.hid hB1
  have HX := Lib.hid hbx
  have HE := Lib.hid hex
  have HV := Lib.hid hvx
  clear hcl hB1 hbx hex hvx ha
  have eOr : (s.toList == [124, 124]) = false := lit_no (by rw [hs]; decide)
  have eAnd : (s.toList == [38, 38]) = false := lit_no (by rw [hs]; decide)
  have eEq : (s.toList == [61, 61]) = true := lit_yes hs
  have eNe : (s.toList == [33, 61]) = false := lit_no (by rw [hs]; decide)
  have eLt : (s.toList == [60]) = false := lit_no (by rw [hs]; decide)
  have eGt : (s.toList == [62]) = false := lit_no (by rw [hs]; decide)
  have eLe : (s.toList == [60, 61]) = false := lit_no (by rw [hs]; decide)
  have eGe : (s.toList == [62, 61]) = false := lit_no (by rw [hs]; decide)
  have eShl : (s.toList == [60, 60]) = false := lit_no (by rw [hs]; decide)
  have eShr : (s.toList == [62, 62]) = false := lit_no (by rw [hs]; decide)
  have eQuo : (s.toList == [47]) = false := lit_no (by rw [hs]; decide)
  have eRem : (s.toList == [37]) = false := lit_no (by rw [hs]; decide)
  have hea : Ie.early s a = none := (if_neg (fun h => absurd h.1 (by rw [hs]; decide))).trans (if_neg (fun h => absurd h.1 (by rw [hs]; decide)))
  have HEA := Lib.hid hea
  have htw : ∀ b, Ie.two s a b = (Ie.one (Ie.cmpB s a b), 0) := two_cmp (by rw [hs]; decide) a
  have HTW := Lib.hid htw
  clear hea hs htw
  go_enter Tryz.func143, Tryz.ntmps143
  go_wp2_with fail
  refine HM.out.mono ?_
  rintro e w2 ⟨rfl, hB2⟩
  rw [← HE.out, ← HV.out]
  have hb2 := below_heap hB2 HX.out
  obtain ⟨k0, -⟩ := box2v hb2
  have hw2 := Below.then HB1.out hB2
  have HW2 := Lib.hid hw2
  clear hB2 hb2 hw2 hn hm he HM
  by_cases h0 : ex = 0
  · go_wp2_with fail
    refine (compared_any _ _ _ _).mono ?_
    rintro e w3 ⟨rfl, rfl⟩
    go_wp2_with fail
    refine (truth_any _ _).mono ?_
    rintro e w3 ⟨rfl, rfl⟩
    go_wp2_with fail
    go_ret2
    refine ⟨?_, HW2.out⟩
    unfold Ie.lnk
    rw [HEA.out]
    dsimp only
    rw [← HE.out, ← HV.out, if_neg (fun h => h h0), HTW.out]
    rfl
  · go_wp2_with fail
    go_ret2
    refine ⟨?_, HW2.out⟩
    unfold Ie.lnk
    rw [HEA.out]
    dsimp only
    rw [← HE.out, if_pos h0]
    rfl
set_option maxRecDepth 100000 in
set_option maxHeartbeats 2000000 in
theorem link_ne (s : ByteArray) (y : E) (v : Value) (a : Int) (w : World) (ha : ∀ W, Below w.heap.size w W → VM v y W) (hs : s = Ie.sNe) :
    Calls Tryz.prog 143 #[.agg #[.string s, v], .int .i64 a] w fun e w' => e = .returned (.tuple #[.int .i64 (Ie.lnk s y a).1, .int .i64 (Ie.lnk s y a).2]) ∧ Below w.heap.size w w' := by
  have hB1 : Below w.heap.size w (w.alloc (.cells #[.string s, v] 122)) := Below.alloc (Below.refl _ _) (Nat.le_refl _) _
  have hbx : (w.alloc (.cells #[.string s, v] 122)).heap[w.heap.size]? = some (.cells #[.string s, v] 122 (0, 0)) := heap_alloc_new w _
  obtain ⟨t, p, f, rfl, hn, hm, he, hcl⟩ := ha _ hB1
  obtain ⟨ex, hex⟩ : ∃ ex, ex = (Ie.comes y).2 := ⟨_, rfl⟩
  obtain ⟨vx, hvx⟩ : ∃ vx, vx = (Ie.comes y).1 := ⟨_, rfl⟩
  have HM := Lib.hid hcl
  have HB1 := Lib.hid hB1
  have HX := Lib.hid hbx
  have HE := Lib.hid hex
  have HV := Lib.hid hvx
  clear hcl hB1 hbx hex hvx ha
  have eOr : (s.toList == [124, 124]) = false := lit_no (by rw [hs]; decide)
  have eAnd : (s.toList == [38, 38]) = false := lit_no (by rw [hs]; decide)
  have eEq : (s.toList == [61, 61]) = false := lit_no (by rw [hs]; decide)
  have eNe : (s.toList == [33, 61]) = true := lit_yes hs
  have eLt : (s.toList == [60]) = false := lit_no (by rw [hs]; decide)
  have eGt : (s.toList == [62]) = false := lit_no (by rw [hs]; decide)
  have eLe : (s.toList == [60, 61]) = false := lit_no (by rw [hs]; decide)
  have eGe : (s.toList == [62, 61]) = false := lit_no (by rw [hs]; decide)
  have eShl : (s.toList == [60, 60]) = false := lit_no (by rw [hs]; decide)
  have eShr : (s.toList == [62, 62]) = false := lit_no (by rw [hs]; decide)
  have eQuo : (s.toList == [47]) = false := lit_no (by rw [hs]; decide)
  have eRem : (s.toList == [37]) = false := lit_no (by rw [hs]; decide)
  have hea : Ie.early s a = none := (if_neg (fun h => absurd h.1 (by rw [hs]; decide))).trans (if_neg (fun h => absurd h.1 (by rw [hs]; decide)))
  have HEA := Lib.hid hea
  have htw : ∀ b, Ie.two s a b = (Ie.one (Ie.cmpB s a b), 0) := two_cmp (by rw [hs]; decide) a
  have HTW := Lib.hid htw
  clear hea hs htw
  go_enter Tryz.func143, Tryz.ntmps143
  go_wp2_with fail
  refine HM.out.mono ?_
  rintro e w2 ⟨rfl, hB2⟩
  rw [← HE.out, ← HV.out]
  have hb2 := below_heap hB2 HX.out
  obtain ⟨k0, -⟩ := box2v hb2
  have hw2 := Below.then HB1.out hB2
  have HW2 := Lib.hid hw2
  clear hB2 hb2 hw2 hn hm he HM
  by_cases h0 : ex = 0
  · go_wp2_with fail
    refine (compared_any _ _ _ _).mono ?_
    rintro e w3 ⟨rfl, rfl⟩
    go_wp2_with fail
    refine (truth_any _ _).mono ?_
    rintro e w3 ⟨rfl, rfl⟩
    go_wp2_with fail
    go_ret2
    refine ⟨?_, HW2.out⟩
    unfold Ie.lnk
    rw [HEA.out]
    dsimp only
    rw [← HE.out, ← HV.out, if_neg (fun h => h h0), HTW.out]
    rfl
  · go_wp2_with fail
    go_ret2
    refine ⟨?_, HW2.out⟩
    unfold Ie.lnk
    rw [HEA.out]
    dsimp only
    rw [← HE.out, if_pos h0]
    rfl
set_option maxRecDepth 100000 in
set_option maxHeartbeats 2000000 in
theorem link_lt (s : ByteArray) (y : E) (v : Value) (a : Int) (w : World) (ha : ∀ W, Below w.heap.size w W → VM v y W) (hs : s = Ie.sLt) :
    Calls Tryz.prog 143 #[.agg #[.string s, v], .int .i64 a] w fun e w' => e = .returned (.tuple #[.int .i64 (Ie.lnk s y a).1, .int .i64 (Ie.lnk s y a).2]) ∧ Below w.heap.size w w' := by
  have hB1 : Below w.heap.size w (w.alloc (.cells #[.string s, v] 122)) := Below.alloc (Below.refl _ _) (Nat.le_refl _) _
  have hbx : (w.alloc (.cells #[.string s, v] 122)).heap[w.heap.size]? = some (.cells #[.string s, v] 122 (0, 0)) := heap_alloc_new w _
  obtain ⟨t, p, f, rfl, hn, hm, he, hcl⟩ := ha _ hB1
  obtain ⟨ex, hex⟩ : ∃ ex, ex = (Ie.comes y).2 := ⟨_, rfl⟩
  obtain ⟨vx, hvx⟩ : ∃ vx, vx = (Ie.comes y).1 := ⟨_, rfl⟩
  have HM := Lib.hid hcl
  have HB1 := Lib.hid hB1
  have HX := Lib.hid hbx
  have HE := Lib.hid hex
  have HV := Lib.hid hvx
  clear hcl hB1 hbx hex hvx ha
  have eOr : (s.toList == [124, 124]) = false := lit_no (by rw [hs]; decide)
  have eAnd : (s.toList == [38, 38]) = false := lit_no (by rw [hs]; decide)
  have eEq : (s.toList == [61, 61]) = false := lit_no (by rw [hs]; decide)
  have eNe : (s.toList == [33, 61]) = false := lit_no (by rw [hs]; decide)
  have eLt : (s.toList == [60]) = true := lit_yes hs
  have eGt : (s.toList == [62]) = false := lit_no (by rw [hs]; decide)
  have eLe : (s.toList == [60, 61]) = false := lit_no (by rw [hs]; decide)
  have eGe : (s.toList == [62, 61]) = false := lit_no (by rw [hs]; decide)
  have eShl : (s.toList == [60, 60]) = false := lit_no (by rw [hs]; decide)
  have eShr : (s.toList == [62, 62]) = false := lit_no (by rw [hs]; decide)
  have eQuo : (s.toList == [47]) = false := lit_no (by rw [hs]; decide)
  have eRem : (s.toList == [37]) = false := lit_no (by rw [hs]; decide)
  have hea : Ie.early s a = none := (if_neg (fun h => absurd h.1 (by rw [hs]; decide))).trans (if_neg (fun h => absurd h.1 (by rw [hs]; decide)))
  have HEA := Lib.hid hea
  have htw : ∀ b, Ie.two s a b = (Ie.one (Ie.cmpB s a b), 0) := two_cmp (by rw [hs]; decide) a
  have HTW := Lib.hid htw
  clear hea hs htw
  go_enter Tryz.func143, Tryz.ntmps143
  go_wp2_with fail
  refine HM.out.mono ?_
  rintro e w2 ⟨rfl, hB2⟩
  rw [← HE.out, ← HV.out]
  have hb2 := below_heap hB2 HX.out
  obtain ⟨k0, -⟩ := box2v hb2
  have hw2 := Below.then HB1.out hB2
  have HW2 := Lib.hid hw2
  clear hB2 hb2 hw2 hn hm he HM
  by_cases h0 : ex = 0
  · go_wp2_with fail
    refine (compared_any _ _ _ _).mono ?_
    rintro e w3 ⟨rfl, rfl⟩
    go_wp2_with fail
    refine (truth_any _ _).mono ?_
    rintro e w3 ⟨rfl, rfl⟩
    go_wp2_with fail
    go_ret2
    refine ⟨?_, HW2.out⟩
    unfold Ie.lnk
    rw [HEA.out]
    dsimp only
    rw [← HE.out, ← HV.out, if_neg (fun h => h h0), HTW.out]
    rfl
  · go_wp2_with fail
    go_ret2
    refine ⟨?_, HW2.out⟩
    unfold Ie.lnk
    rw [HEA.out]
    dsimp only
    rw [← HE.out, if_pos h0]
    rfl
set_option maxRecDepth 100000 in
set_option maxHeartbeats 2000000 in
theorem link_gt (s : ByteArray) (y : E) (v : Value) (a : Int) (w : World) (ha : ∀ W, Below w.heap.size w W → VM v y W) (hs : s = Ie.sGt) :
    Calls Tryz.prog 143 #[.agg #[.string s, v], .int .i64 a] w fun e w' => e = .returned (.tuple #[.int .i64 (Ie.lnk s y a).1, .int .i64 (Ie.lnk s y a).2]) ∧ Below w.heap.size w w' := by
  have hB1 : Below w.heap.size w (w.alloc (.cells #[.string s, v] 122)) := Below.alloc (Below.refl _ _) (Nat.le_refl _) _
  have hbx : (w.alloc (.cells #[.string s, v] 122)).heap[w.heap.size]? = some (.cells #[.string s, v] 122 (0, 0)) := heap_alloc_new w _
  obtain ⟨t, p, f, rfl, hn, hm, he, hcl⟩ := ha _ hB1
  obtain ⟨ex, hex⟩ : ∃ ex, ex = (Ie.comes y).2 := ⟨_, rfl⟩
  obtain ⟨vx, hvx⟩ : ∃ vx, vx = (Ie.comes y).1 := ⟨_, rfl⟩
  have HM := Lib.hid hcl
  have HB1 := Lib.hid hB1
  have HX := Lib.hid hbx
  have HE := Lib.hid hex
  have HV := Lib.hid hvx
  clear hcl hB1 hbx hex hvx ha
  have eOr : (s.toList == [124, 124]) = false := lit_no (by rw [hs]; decide)
  have eAnd : (s.toList == [38, 38]) = false := lit_no (by rw [hs]; decide)
  have eEq : (s.toList == [61, 61]) = false := lit_no (by rw [hs]; decide)
  have eNe : (s.toList == [33, 61]) = false := lit_no (by rw [hs]; decide)
  have eLt : (s.toList == [60]) = false := lit_no (by rw [hs]; decide)
  have eGt : (s.toList == [62]) = true := lit_yes hs
  have eLe : (s.toList == [60, 61]) = false := lit_no (by rw [hs]; decide)
  have eGe : (s.toList == [62, 61]) = false := lit_no (by rw [hs]; decide)
  have eShl : (s.toList == [60, 60]) = false := lit_no (by rw [hs]; decide)
  have eShr : (s.toList == [62, 62]) = false := lit_no (by rw [hs]; decide)
  have eQuo : (s.toList == [47]) = false := lit_no (by rw [hs]; decide)
  have eRem : (s.toList == [37]) = false := lit_no (by rw [hs]; decide)
  have hea : Ie.early s a = none := (if_neg (fun h => absurd h.1 (by rw [hs]; decide))).trans (if_neg (fun h => absurd h.1 (by rw [hs]; decide)))
  have HEA := Lib.hid hea
  have htw : ∀ b, Ie.two s a b = (Ie.one (Ie.cmpB s a b), 0) := two_cmp (by rw [hs]; decide) a
  have HTW := Lib.hid htw
  clear hea hs htw
  go_enter Tryz.func143, Tryz.ntmps143
  go_wp2_with fail
  refine HM.out.mono ?_
  rintro e w2 ⟨rfl, hB2⟩
  rw [← HE.out, ← HV.out]
  have hb2 := below_heap hB2 HX.out
  obtain ⟨k0, -⟩ := box2v hb2
  have hw2 := Below.then HB1.out hB2
  have HW2 := Lib.hid hw2
  clear hB2 hb2 hw2 hn hm he HM
  by_cases h0 : ex = 0
  · go_wp2_with fail
    refine (compared_any _ _ _ _).mono ?_
    rintro e w3 ⟨rfl, rfl⟩
    go_wp2_with fail
    refine (truth_any _ _).mono ?_
    rintro e w3 ⟨rfl, rfl⟩
    go_wp2_with fail
    go_ret2
    refine ⟨?_, HW2.out⟩
    unfold Ie.lnk
    rw [HEA.out]
    dsimp only
    rw [← HE.out, ← HV.out, if_neg (fun h => h h0), HTW.out]
    rfl
  · go_wp2_with fail
    go_ret2
    refine ⟨?_, HW2.out⟩
    unfold Ie.lnk
    rw [HEA.out]
    dsimp only
    rw [← HE.out, if_pos h0]
    rfl
set_option maxRecDepth 100000 in
set_option maxHeartbeats 2000000 in
theorem link_le (s : ByteArray) (y : E) (v : Value) (a : Int) (w : World) (ha : ∀ W, Below w.heap.size w W → VM v y W) (hs : s = Ie.sLe) :
    Calls Tryz.prog 143 #[.agg #[.string s, v], .int .i64 a] w fun e w' => e = .returned (.tuple #[.int .i64 (Ie.lnk s y a).1, .int .i64 (Ie.lnk s y a).2]) ∧ Below w.heap.size w w' := by
  have hB1 : Below w.heap.size w (w.alloc (.cells #[.string s, v] 122)) := Below.alloc (Below.refl _ _) (Nat.le_refl _) _
  have hbx : (w.alloc (.cells #[.string s, v] 122)).heap[w.heap.size]? = some (.cells #[.string s, v] 122 (0, 0)) := heap_alloc_new w _
  obtain ⟨t, p, f, rfl, hn, hm, he, hcl⟩ := ha _ hB1
  obtain ⟨ex, hex⟩ : ∃ ex, ex = (Ie.comes y).2 := ⟨_, rfl⟩
  obtain ⟨vx, hvx⟩ : ∃ vx, vx = (Ie.comes y).1 := ⟨_, rfl⟩
  have HM := Lib.hid hcl
  have HB1 := Lib.hid hB1
  have HX := Lib.hid hbx
  have HE := Lib.hid hex
  have HV := Lib.hid hvx
  clear hcl hB1 hbx hex hvx ha
  have eOr : (s.toList == [124, 124]) = false := lit_no (by rw [hs]; decide)
  have eAnd : (s.toList == [38, 38]) = false := lit_no (by rw [hs]; decide)
  have eEq : (s.toList == [61, 61]) = false := lit_no (by rw [hs]; decide)
  have eNe : (s.toList == [33, 61]) = false := lit_no (by rw [hs]; decide)
  have eLt : (s.toList == [60]) = false := lit_no (by rw [hs]; decide)
  have eGt : (s.toList == [62]) = false := lit_no (by rw [hs]; decide)
  have eLe : (s.toList == [60, 61]) = true := lit_yes hs
  have eGe : (s.toList == [62, 61]) = false := lit_no (by rw [hs]; decide)
  have eShl : (s.toList == [60, 60]) = false := lit_no (by rw [hs]; decide)
  have eShr : (s.toList == [62, 62]) = false := lit_no (by rw [hs]; decide)
  have eQuo : (s.toList == [47]) = false := lit_no (by rw [hs]; decide)
  have eRem : (s.toList == [37]) = false := lit_no (by rw [hs]; decide)
  have hea : Ie.early s a = none := (if_neg (fun h => absurd h.1 (by rw [hs]; decide))).trans (if_neg (fun h => absurd h.1 (by rw [hs]; decide)))
  have HEA := Lib.hid hea
  have htw : ∀ b, Ie.two s a b = (Ie.one (Ie.cmpB s a b), 0) := two_cmp (by rw [hs]; decide) a
  have HTW := Lib.hid htw
  clear hea hs htw
  go_enter Tryz.func143, Tryz.ntmps143
  go_wp2_with fail
  refine HM.out.mono ?_
  rintro e w2 ⟨rfl, hB2⟩
  rw [← HE.out, ← HV.out]
  have hb2 := below_heap hB2 HX.out
  obtain ⟨k0, -⟩ := box2v hb2
  have hw2 := Below.then HB1.out hB2
  have HW2 := Lib.hid hw2
  clear hB2 hb2 hw2 hn hm he HM
  by_cases h0 : ex = 0
  · go_wp2_with fail
    refine (compared_any _ _ _ _).mono ?_
    rintro e w3 ⟨rfl, rfl⟩
    go_wp2_with fail
    refine (truth_any _ _).mono ?_
    rintro e w3 ⟨rfl, rfl⟩
    go_wp2_with fail
    go_ret2
    refine ⟨?_, HW2.out⟩
    unfold Ie.lnk
    rw [HEA.out]
    dsimp only
    rw [← HE.out, ← HV.out, if_neg (fun h => h h0), HTW.out]
    rfl
  · go_wp2_with fail
    go_ret2
    refine ⟨?_, HW2.out⟩
    unfold Ie.lnk
    rw [HEA.out]
    dsimp only
    rw [← HE.out, if_pos h0]
    rfl
set_option maxRecDepth 100000 in
set_option maxHeartbeats 2000000 in
theorem link_ge (s : ByteArray) (y : E) (v : Value) (a : Int) (w : World) (ha : ∀ W, Below w.heap.size w W → VM v y W) (hs : s = Ie.sGe) :
    Calls Tryz.prog 143 #[.agg #[.string s, v], .int .i64 a] w fun e w' => e = .returned (.tuple #[.int .i64 (Ie.lnk s y a).1, .int .i64 (Ie.lnk s y a).2]) ∧ Below w.heap.size w w' := by
  have hB1 : Below w.heap.size w (w.alloc (.cells #[.string s, v] 122)) := Below.alloc (Below.refl _ _) (Nat.le_refl _) _
  have hbx : (w.alloc (.cells #[.string s, v] 122)).heap[w.heap.size]? = some (.cells #[.string s, v] 122 (0, 0)) := heap_alloc_new w _
  obtain ⟨t, p, f, rfl, hn, hm, he, hcl⟩ := ha _ hB1
  obtain ⟨ex, hex⟩ : ∃ ex, ex = (Ie.comes y).2 := ⟨_, rfl⟩
  obtain ⟨vx, hvx⟩ : ∃ vx, vx = (Ie.comes y).1 := ⟨_, rfl⟩
  have HM := Lib.hid hcl
  have HB1 := Lib.hid hB1
  have HX := Lib.hid hbx
  have HE := Lib.hid hex
  have HV := Lib.hid hvx
  clear hcl hB1 hbx hex hvx ha
  have eOr : (s.toList == [124, 124]) = false := lit_no (by rw [hs]; decide)
  have eAnd : (s.toList == [38, 38]) = false := lit_no (by rw [hs]; decide)
  have eEq : (s.toList == [61, 61]) = false := lit_no (by rw [hs]; decide)
  have eNe : (s.toList == [33, 61]) = false := lit_no (by rw [hs]; decide)
  have eLt : (s.toList == [60]) = false := lit_no (by rw [hs]; decide)
  have eGt : (s.toList == [62]) = false := lit_no (by rw [hs]; decide)
  have eLe : (s.toList == [60, 61]) = false := lit_no (by rw [hs]; decide)
  have eGe : (s.toList == [62, 61]) = true := lit_yes hs
  have eShl : (s.toList == [60, 60]) = false := lit_no (by rw [hs]; decide)
  have eShr : (s.toList == [62, 62]) = false := lit_no (by rw [hs]; decide)
  have eQuo : (s.toList == [47]) = false := lit_no (by rw [hs]; decide)
  have eRem : (s.toList == [37]) = false := lit_no (by rw [hs]; decide)
  have hea : Ie.early s a = none := (if_neg (fun h => absurd h.1 (by rw [hs]; decide))).trans (if_neg (fun h => absurd h.1 (by rw [hs]; decide)))
  have HEA := Lib.hid hea
  have htw : ∀ b, Ie.two s a b = (Ie.one (Ie.cmpB s a b), 0) := two_cmp (by rw [hs]; decide) a
  have HTW := Lib.hid htw
  clear hea hs htw
  go_enter Tryz.func143, Tryz.ntmps143
  go_wp2_with fail
  refine HM.out.mono ?_
  rintro e w2 ⟨rfl, hB2⟩
  rw [← HE.out, ← HV.out]
  have hb2 := below_heap hB2 HX.out
  obtain ⟨k0, -⟩ := box2v hb2
  have hw2 := Below.then HB1.out hB2
  have HW2 := Lib.hid hw2
  clear hB2 hb2 hw2 hn hm he HM
  by_cases h0 : ex = 0
  · go_wp2_with fail
    refine (compared_any _ _ _ _).mono ?_
    rintro e w3 ⟨rfl, rfl⟩
    go_wp2_with fail
    refine (truth_any _ _).mono ?_
    rintro e w3 ⟨rfl, rfl⟩
    go_wp2_with fail
    go_ret2
    refine ⟨?_, HW2.out⟩
    unfold Ie.lnk
    rw [HEA.out]
    dsimp only
    rw [← HE.out, ← HV.out, if_neg (fun h => h h0), HTW.out]
    rfl
  · go_wp2_with fail
    go_ret2
    refine ⟨?_, HW2.out⟩
    unfold Ie.lnk
    rw [HEA.out]
    dsimp only
    rw [← HE.out, if_pos h0]
    rfl
set_option maxRecDepth 100000 in
set_option maxHeartbeats 2000000 in
theorem link_shl (s : ByteArray) (y : E) (v : Value) (a : Int) (w : World) (ha : ∀ W, Below w.heap.size w W → VM v y W) (hs : s = Ie.sShl) :
    Calls Tryz.prog 143 #[.agg #[.string s, v], .int .i64 a] w fun e w' => e = .returned (.tuple #[.int .i64 (Ie.lnk s y a).1, .int .i64 (Ie.lnk s y a).2]) ∧ Below w.heap.size w w' := by
  have hB1 : Below w.heap.size w (w.alloc (.cells #[.string s, v] 122)) := Below.alloc (Below.refl _ _) (Nat.le_refl _) _
  have hbx : (w.alloc (.cells #[.string s, v] 122)).heap[w.heap.size]? = some (.cells #[.string s, v] 122 (0, 0)) := heap_alloc_new w _
  obtain ⟨t, p, f, rfl, hn, hm, he, hcl⟩ := ha _ hB1
  obtain ⟨ex, hex⟩ : ∃ ex, ex = (Ie.comes y).2 := ⟨_, rfl⟩
  obtain ⟨vx, hvx⟩ : ∃ vx, vx = (Ie.comes y).1 := ⟨_, rfl⟩
  have HM := Lib.hid hcl
  have HB1 := Lib.hid hB1
  have HX := Lib.hid hbx
  have HE := Lib.hid hex
  have HV := Lib.hid hvx
  clear hcl hB1 hbx hex hvx ha
  have eOr : (s.toList == [124, 124]) = false := lit_no (by rw [hs]; decide)
  have eAnd : (s.toList == [38, 38]) = false := lit_no (by rw [hs]; decide)
  have eEq : (s.toList == [61, 61]) = false := lit_no (by rw [hs]; decide)
  have eNe : (s.toList == [33, 61]) = false := lit_no (by rw [hs]; decide)
  have eLt : (s.toList == [60]) = false := lit_no (by rw [hs]; decide)
  have eGt : (s.toList == [62]) = false := lit_no (by rw [hs]; decide)
  have eLe : (s.toList == [60, 61]) = false := lit_no (by rw [hs]; decide)
  have eGe : (s.toList == [62, 61]) = false := lit_no (by rw [hs]; decide)
  have eShl : (s.toList == [60, 60]) = true := lit_yes hs
  have eShr : (s.toList == [62, 62]) = false := lit_no (by rw [hs]; decide)
  have eQuo : (s.toList == [47]) = false := lit_no (by rw [hs]; decide)
  have eRem : (s.toList == [37]) = false := lit_no (by rw [hs]; decide)
  have hea : Ie.early s a = none := (if_neg (fun h => absurd h.1 (by rw [hs]; decide))).trans (if_neg (fun h => absurd h.1 (by rw [hs]; decide)))
  have HEA := Lib.hid hea
  have htw : ∀ b, Ie.two s a b = Ie.shf s a b := two_shf (by rw [hs]; decide) a
  have HTW := Lib.hid htw
  clear hea hs htw
  go_enter Tryz.func143, Tryz.ntmps143
  go_wp2_with fail
  refine HM.out.mono ?_
  rintro e w2 ⟨rfl, hB2⟩
  rw [← HE.out, ← HV.out]
  have hb2 := below_heap hB2 HX.out
  obtain ⟨k0, -⟩ := box2v hb2
  have hw2 := Below.then HB1.out hB2
  have HW2 := Lib.hid hw2
  clear hB2 hb2 hw2 hn hm he HM
  by_cases h0 : ex = 0
  · go_wp2_with fail
    refine (shifted_any _ _ _ _).mono ?_
    rintro e w3 ⟨rfl, rfl⟩
    go_wp2_with fail
    go_ret2
    refine ⟨?_, HW2.out⟩
    unfold Ie.lnk
    rw [HEA.out]
    dsimp only
    rw [← HE.out, ← HV.out, if_neg (fun h => h h0), HTW.out]
    rfl
  · go_wp2_with fail
    go_ret2
    refine ⟨?_, HW2.out⟩
    unfold Ie.lnk
    rw [HEA.out]
    dsimp only
    rw [← HE.out, if_pos h0]
    rfl
set_option maxRecDepth 100000 in
set_option maxHeartbeats 2000000 in
theorem link_shr (s : ByteArray) (y : E) (v : Value) (a : Int) (w : World) (ha : ∀ W, Below w.heap.size w W → VM v y W) (hs : s = Ie.sShr) :
    Calls Tryz.prog 143 #[.agg #[.string s, v], .int .i64 a] w fun e w' => e = .returned (.tuple #[.int .i64 (Ie.lnk s y a).1, .int .i64 (Ie.lnk s y a).2]) ∧ Below w.heap.size w w' := by
  have hB1 : Below w.heap.size w (w.alloc (.cells #[.string s, v] 122)) := Below.alloc (Below.refl _ _) (Nat.le_refl _) _
  have hbx : (w.alloc (.cells #[.string s, v] 122)).heap[w.heap.size]? = some (.cells #[.string s, v] 122 (0, 0)) := heap_alloc_new w _
  obtain ⟨t, p, f, rfl, hn, hm, he, hcl⟩ := ha _ hB1
  obtain ⟨ex, hex⟩ : ∃ ex, ex = (Ie.comes y).2 := ⟨_, rfl⟩
  obtain ⟨vx, hvx⟩ : ∃ vx, vx = (Ie.comes y).1 := ⟨_, rfl⟩
  have HM := Lib.hid hcl
  have HB1 := Lib.hid hB1
  have HX := Lib.hid hbx
  have HE := Lib.hid hex
  have HV := Lib.hid hvx
  clear hcl hB1 hbx hex hvx ha
  have eOr : (s.toList == [124, 124]) = false := lit_no (by rw [hs]; decide)
  have eAnd : (s.toList == [38, 38]) = false := lit_no (by rw [hs]; decide)
  have eEq : (s.toList == [61, 61]) = false := lit_no (by rw [hs]; decide)
  have eNe : (s.toList == [33, 61]) = false := lit_no (by rw [hs]; decide)
  have eLt : (s.toList == [60]) = false := lit_no (by rw [hs]; decide)
  have eGt : (s.toList == [62]) = false := lit_no (by rw [hs]; decide)
  have eLe : (s.toList == [60, 61]) = false := lit_no (by rw [hs]; decide)
  have eGe : (s.toList == [62, 61]) = false := lit_no (by rw [hs]; decide)
  have eShl : (s.toList == [60, 60]) = false := lit_no (by rw [hs]; decide)
  have eShr : (s.toList == [62, 62]) = true := lit_yes hs
  have eQuo : (s.toList == [47]) = false := lit_no (by rw [hs]; decide)
  have eRem : (s.toList == [37]) = false := lit_no (by rw [hs]; decide)
  have hea : Ie.early s a = none := (if_neg (fun h => absurd h.1 (by rw [hs]; decide))).trans (if_neg (fun h => absurd h.1 (by rw [hs]; decide)))
  have HEA := Lib.hid hea
  have htw : ∀ b, Ie.two s a b = Ie.shf s a b := two_shf (by rw [hs]; decide) a
  have HTW := Lib.hid htw
  clear hea hs htw
  go_enter Tryz.func143, Tryz.ntmps143
  go_wp2_with fail
  refine HM.out.mono ?_
  rintro e w2 ⟨rfl, hB2⟩
  rw [← HE.out, ← HV.out]
  have hb2 := below_heap hB2 HX.out
  obtain ⟨k0, -⟩ := box2v hb2
  have hw2 := Below.then HB1.out hB2
  have HW2 := Lib.hid hw2
  clear hB2 hb2 hw2 hn hm he HM
  by_cases h0 : ex = 0
  · go_wp2_with fail
    refine (shifted_any _ _ _ _).mono ?_
    rintro e w3 ⟨rfl, rfl⟩
    go_wp2_with fail
    go_ret2
    refine ⟨?_, HW2.out⟩
    unfold Ie.lnk
    rw [HEA.out]
    dsimp only
    rw [← HE.out, ← HV.out, if_neg (fun h => h h0), HTW.out]
    rfl
  · go_wp2_with fail
    go_ret2
    refine ⟨?_, HW2.out⟩
    unfold Ie.lnk
    rw [HEA.out]
    dsimp only
    rw [← HE.out, if_pos h0]
    rfl
set_option maxRecDepth 100000 in
set_option maxHeartbeats 2000000 in
theorem link_quo (s : ByteArray) (y : E) (v : Value) (a : Int) (w : World) (ha : ∀ W, Below w.heap.size w W → VM v y W) (hs : s = Ie.sQuo) :
    Calls Tryz.prog 143 #[.agg #[.string s, v], .int .i64 a] w fun e w' => e = .returned (.tuple #[.int .i64 (Ie.lnk s y a).1, .int .i64 (Ie.lnk s y a).2]) ∧ Below w.heap.size w w' := by
  have hB1 : Below w.heap.size w (w.alloc (.cells #[.string s, v] 122)) := Below.alloc (Below.refl _ _) (Nat.le_refl _) _
  have hbx : (w.alloc (.cells #[.string s, v] 122)).heap[w.heap.size]? = some (.cells #[.string s, v] 122 (0, 0)) := heap_alloc_new w _
  obtain ⟨t, p, f, rfl, hn, hm, he, hcl⟩ := ha _ hB1
  obtain ⟨ex, hex⟩ : ∃ ex, ex = (Ie.comes y).2 := ⟨_, rfl⟩
  obtain ⟨vx, hvx⟩ : ∃ vx, vx = (Ie.comes y).1 := ⟨_, rfl⟩
  have HM := Lib.hid hcl
  have HB1 := Lib.hid hB1
  have HX := Lib.hid hbx
  have HE := Lib.hid hex
  have HV := Lib.hid hvx
  clear hcl hB1 hbx hex hvx ha
  have eOr : (s.toList == [124, 124]) = false := lit_no (by rw [hs]; decide)
  have eAnd : (s.toList == [38, 38]) = false := lit_no (by rw [hs]; decide)
  have eEq : (s.toList == [61, 61]) = false := lit_no (by rw [hs]; decide)
  have eNe : (s.toList == [33, 61]) = false := lit_no (by rw [hs]; decide)
  have eLt : (s.toList == [60]) = false := lit_no (by rw [hs]; decide)
  have eGt : (s.toList == [62]) = false := lit_no (by rw [hs]; decide)
  have eLe : (s.toList == [60, 61]) = false := lit_no (by rw [hs]; decide)
  have eGe : (s.toList == [62, 61]) = false := lit_no (by rw [hs]; decide)
  have eShl : (s.toList == [60, 60]) = false := lit_no (by rw [hs]; decide)
  have eShr : (s.toList == [62, 62]) = false := lit_no (by rw [hs]; decide)
  have eQuo : (s.toList == [47]) = true := lit_yes hs
  have eRem : (s.toList == [37]) = false := lit_no (by rw [hs]; decide)
  have hea : Ie.early s a = none := (if_neg (fun h => absurd h.1 (by rw [hs]; decide))).trans (if_neg (fun h => absurd h.1 (by rw [hs]; decide)))
  have HEA := Lib.hid hea
  have htw : ∀ b, Ie.two s a b = Ie.dvd s a b := two_dvd (by rw [hs]; decide) a
  have HTW := Lib.hid htw
  clear hea hs htw
  go_enter Tryz.func143, Tryz.ntmps143
  go_wp2_with fail
  refine HM.out.mono ?_
  rintro e w2 ⟨rfl, hB2⟩
  rw [← HE.out, ← HV.out]
  have hb2 := below_heap hB2 HX.out
  obtain ⟨k0, -⟩ := box2v hb2
  have hw2 := Below.then HB1.out hB2
  have HW2 := Lib.hid hw2
  clear hB2 hb2 hw2 hn hm he HM
  by_cases h0 : ex = 0
  · go_wp2_with fail
    refine (divided_any _ _ _ _).mono ?_
    rintro e w3 ⟨rfl, rfl⟩
    go_wp2_with fail
    go_ret2
    refine ⟨?_, HW2.out⟩
    unfold Ie.lnk
    rw [HEA.out]
    dsimp only
    rw [← HE.out, ← HV.out, if_neg (fun h => h h0), HTW.out]
    rfl
  · go_wp2_with fail
    go_ret2
    refine ⟨?_, HW2.out⟩
    unfold Ie.lnk
    rw [HEA.out]
    dsimp only
    rw [← HE.out, if_pos h0]
    rfl
set_option maxRecDepth 100000 in
set_option maxHeartbeats 2000000 in
theorem link_rem (s : ByteArray) (y : E) (v : Value) (a : Int) (w : World) (ha : ∀ W, Below w.heap.size w W → VM v y W) (hs : s = Ie.sRem) :
    Calls Tryz.prog 143 #[.agg #[.string s, v], .int .i64 a] w fun e w' => e = .returned (.tuple #[.int .i64 (Ie.lnk s y a).1, .int .i64 (Ie.lnk s y a).2]) ∧ Below w.heap.size w w' := by
  have hB1 : Below w.heap.size w (w.alloc (.cells #[.string s, v] 122)) := Below.alloc (Below.refl _ _) (Nat.le_refl _) _
  have hbx : (w.alloc (.cells #[.string s, v] 122)).heap[w.heap.size]? = some (.cells #[.string s, v] 122 (0, 0)) := heap_alloc_new w _
  obtain ⟨t, p, f, rfl, hn, hm, he, hcl⟩ := ha _ hB1
  obtain ⟨ex, hex⟩ : ∃ ex, ex = (Ie.comes y).2 := ⟨_, rfl⟩
  obtain ⟨vx, hvx⟩ : ∃ vx, vx = (Ie.comes y).1 := ⟨_, rfl⟩
  have HM := Lib.hid hcl
  have HB1 := Lib.hid hB1
  have HX := Lib.hid hbx
  have HE := Lib.hid hex
  have HV := Lib.hid hvx
  clear hcl hB1 hbx hex hvx ha
  have eOr : (s.toList == [124, 124]) = false := lit_no (by rw [hs]; decide)
  have eAnd : (s.toList == [38, 38]) = false := lit_no (by rw [hs]; decide)
  have eEq : (s.toList == [61, 61]) = false := lit_no (by rw [hs]; decide)
  have eNe : (s.toList == [33, 61]) = false := lit_no (by rw [hs]; decide)
  have eLt : (s.toList == [60]) = false := lit_no (by rw [hs]; decide)
  have eGt : (s.toList == [62]) = false := lit_no (by rw [hs]; decide)
  have eLe : (s.toList == [60, 61]) = false := lit_no (by rw [hs]; decide)
  have eGe : (s.toList == [62, 61]) = false := lit_no (by rw [hs]; decide)
  have eShl : (s.toList == [60, 60]) = false := lit_no (by rw [hs]; decide)
  have eShr : (s.toList == [62, 62]) = false := lit_no (by rw [hs]; decide)
  have eQuo : (s.toList == [47]) = false := lit_no (by rw [hs]; decide)
  have eRem : (s.toList == [37]) = true := lit_yes hs
  have hea : Ie.early s a = none := (if_neg (fun h => absurd h.1 (by rw [hs]; decide))).trans (if_neg (fun h => absurd h.1 (by rw [hs]; decide)))
  have HEA := Lib.hid hea
  have htw : ∀ b, Ie.two s a b = Ie.dvd s a b := two_dvd (by rw [hs]; decide) a
  have HTW := Lib.hid htw
  clear hea hs htw
  go_enter Tryz.func143, Tryz.ntmps143
  go_wp2_with fail
  refine HM.out.mono ?_
  rintro e w2 ⟨rfl, hB2⟩
  rw [← HE.out, ← HV.out]
  have hb2 := below_heap hB2 HX.out
  obtain ⟨k0, -⟩ := box2v hb2
  have hw2 := Below.then HB1.out hB2
  have HW2 := Lib.hid hw2
  clear hB2 hb2 hw2 hn hm he HM
  by_cases h0 : ex = 0
  · go_wp2_with fail
    refine (divided_any _ _ _ _).mono ?_
    rintro e w3 ⟨rfl, rfl⟩
    go_wp2_with fail
    go_ret2
    refine ⟨?_, HW2.out⟩
    unfold Ie.lnk
    rw [HEA.out]
    dsimp only
    rw [← HE.out, ← HV.out, if_neg (fun h => h h0), HTW.out]
    rfl
  · go_wp2_with fail
    go_ret2
    refine ⟨?_, HW2.out⟩
    unfold Ie.lnk
    rw [HEA.out]
    dsimp only
    rw [← HE.out, if_pos h0]
    rfl
set_option maxRecDepth 100000 in
set_option maxHeartbeats 2000000 in
theorem link_cnt (s : ByteArray) (y : E) (v : Value) (a : Int) (w : World) (ha : ∀ W, Below w.heap.size w W → VM v y W) (hs : s = Ie.sBar ∨ s = Ie.sHat ∨ s = Ie.sAmp ∨ s = Ie.sAdd ∨ s = Ie.sSub ∨ s = Ie.sMul) :
    Calls Tryz.prog 143 #[.agg #[.string s, v], .int .i64 a] w fun e w' => e = .returned (.tuple #[.int .i64 (Ie.lnk s y a).1, .int .i64 (Ie.lnk s y a).2]) ∧ Below w.heap.size w w' := by
  have hB1 : Below w.heap.size w (w.alloc (.cells #[.string s, v] 122)) := Below.alloc (Below.refl _ _) (Nat.le_refl _) _
  have hbx : (w.alloc (.cells #[.string s, v] 122)).heap[w.heap.size]? = some (.cells #[.string s, v] 122 (0, 0)) := heap_alloc_new w _
  obtain ⟨t, p, f, rfl, hn, hm, he, hcl⟩ := ha _ hB1
  obtain ⟨ex, hex⟩ : ∃ ex, ex = (Ie.comes y).2 := ⟨_, rfl⟩
  obtain ⟨vx, hvx⟩ : ∃ vx, vx = (Ie.comes y).1 := ⟨_, rfl⟩
  have HM := Lib.hid hcl
  have HB1 := Lib.hid hB1
  have HX := Lib.hid hbx
  have HE := Lib.hid hex
  have HV := Lib.hid hvx
  clear hcl hB1 hbx hex hvx ha
  have eOr : (s.toList == [124, 124]) = false := lit_no (by rcases hs with rfl | rfl | rfl | rfl | rfl | rfl <;> decide)
  have eAnd : (s.toList == [38, 38]) = false := lit_no (by rcases hs with rfl | rfl | rfl | rfl | rfl | rfl <;> decide)
  have eEq : (s.toList == [61, 61]) = false := lit_no (by rcases hs with rfl | rfl | rfl | rfl | rfl | rfl <;> decide)
  have eNe : (s.toList == [33, 61]) = false := lit_no (by rcases hs with rfl | rfl | rfl | rfl | rfl | rfl <;> decide)
  have eLt : (s.toList == [60]) = false := lit_no (by rcases hs with rfl | rfl | rfl | rfl | rfl | rfl <;> decide)
  have eGt : (s.toList == [62]) = false := lit_no (by rcases hs with rfl | rfl | rfl | rfl | rfl | rfl <;> decide)
  have eLe : (s.toList == [60, 61]) = false := lit_no (by rcases hs with rfl | rfl | rfl | rfl | rfl | rfl <;> decide)
  have eGe : (s.toList == [62, 61]) = false := lit_no (by rcases hs with rfl | rfl | rfl | rfl | rfl | rfl <;> decide)
  have eShl : (s.toList == [60, 60]) = false := lit_no (by rcases hs with rfl | rfl | rfl | rfl | rfl | rfl <;> decide)
  have eShr : (s.toList == [62, 62]) = false := lit_no (by rcases hs with rfl | rfl | rfl | rfl | rfl | rfl <;> decide)
  have eQuo : (s.toList == [47]) = false := lit_no (by rcases hs with rfl | rfl | rfl | rfl | rfl | rfl <;> decide)
  have eRem : (s.toList == [37]) = false := lit_no (by rcases hs with rfl | rfl | rfl | rfl | rfl | rfl <;> decide)
  have hea : Ie.early s a = none := (if_neg (fun h => absurd h.1 (by rcases hs with rfl | rfl | rfl | rfl | rfl | rfl <;> decide))).trans (if_neg (fun h => absurd h.1 (by rcases hs with rfl | rfl | rfl | rfl | rfl | rfl <;> decide)))
  have HEA := Lib.hid hea
  have htw : ∀ b, Ie.two s a b = (Ie.cnt s a b, 0) := two_cnt hs a
  have HTW := Lib.hid htw
  clear hea hs htw
  go_enter Tryz.func143, Tryz.ntmps143
  go_wp2_with fail
  refine HM.out.mono ?_
  rintro e w2 ⟨rfl, hB2⟩
  rw [← HE.out, ← HV.out]
  have hb2 := below_heap hB2 HX.out
  obtain ⟨k0, -⟩ := box2v hb2
  have hw2 := Below.then HB1.out hB2
  have HW2 := Lib.hid hw2
  clear hB2 hb2 hw2 hn hm he HM
  by_cases h0 : ex = 0
  · go_wp2_with fail
    refine (counted_any _ _ _ _).mono ?_
    rintro e w3 ⟨rfl, rfl⟩
    go_wp2_with fail
    go_ret2
    refine ⟨?_, HW2.out⟩
    unfold Ie.lnk
    rw [HEA.out]
    dsimp only
    rw [← HE.out, ← HV.out, if_neg (fun h => h h0), HTW.out]
    rfl
  · go_wp2_with fail
    go_ret2
    refine ⟨?_, HW2.out⟩
    unfold Ie.lnk
    rw [HEA.out]
    dsimp only
    rw [← HE.out, if_pos h0]
    rfl
theorem link_any (s : ByteArray) (y : E) (v : Value) (a : Int) (w : World) (ha : ∀ W, Below w.heap.size w W → VM v y W) (hs : Ie.lvS s ≠ 0) :
    Calls Tryz.prog 143 #[.agg #[.string s, v], .int .i64 a] w fun e w' => e = .returned (.tuple #[.int .i64 (Ie.lnk s y a).1, .int .i64 (Ie.lnk s y a).2]) ∧ Below w.heap.size w w' := by
  rcases lv_cases hs with h | h | (h | h | h | h | h | h) | (h | h) | (h | h) | h
  · exact link_or s y v a w ha h
  · exact link_and s y v a w ha h
  · exact link_eq s y v a w ha h
  · exact link_ne s y v a w ha h
  · exact link_lt s y v a w ha h
  · exact link_gt s y v a w ha h
  · exact link_le s y v a w ha h
  · exact link_ge s y v a w ha h
  · exact link_shl s y v a w ha h
  · exact link_shr s y v a w ha h
  · exact link_quo s y v a w ha h
  · exact link_rem s y v a w ha h
  · exact link_cnt s y v a w ha h
end Go.Proofs.YtognifnalfjdgaaGreatDoor

/- Plain facts: what is read is a beginning; rows of links. -/
namespace Go.Proofs.YtognifnalfjdgaaGreatDoor
open Go.RowKit Go.Shelf
open Ie (E Rd)

/-- What is read takes one token at least, and leaves what stands behind. -/
def Ie.Dec (p : Rd) : Prop := ∀ l x r, p l = some (x, r) → ∃ k, 0 < k ∧ k ≤ l.length ∧ r = l.drop k
theorem Ie.Dec.nil {p : Rd} (h : Ie.Dec p) : p [] = none := by
  cases hp : p [] with
  | none => rfl
  | some q =>
    obtain ⟨k, h1, h2, _⟩ := h [] q.1 q.2 hp
    simp at h2
    omega
theorem Ie.more_dec {next : Rd} (h : Ie.Dec next) (lv : Nat) : ∀ (f : Nat) (x : E) (l : List K) (y : E) (r : List K), Ie.more next lv f x l = some (y, r) → ∃ k, k ≤ l.length ∧ r = l.drop k
  | 0, x, l, y, r, e => by
    simp only [Ie.more, Option.some.injEq, Prod.mk.injEq] at e
    exact ⟨0, Nat.zero_le _, e.2.symm⟩
  | f + 1, x, [], y, r, e => by
    simp only [Ie.more, Option.some.injEq, Prod.mk.injEq] at e
    exact ⟨0, Nat.zero_le _, e.2.symm⟩
  | f + 1, x, t :: l, y, r, e => by
    unfold Ie.more at e
    split at e
    · cases hn : next l with
      | none => rw [hn] at e; cases e
      | some q =>
        obtain ⟨z, l'⟩ := q
        rw [hn] at e
        obtain ⟨k, _, h2, rfl⟩ := h l z l' hn
        obtain ⟨m, h3, rfl⟩ := Ie.more_dec h lv f _ _ y r e
        rw [List.length_drop] at h3
        exact ⟨k + m + 1, by simp; omega, by rw [List.drop_drop, List.drop_succ_cons]⟩
    · simp only [Option.some.injEq, Prod.mk.injEq] at e
      exact ⟨0, Nat.zero_le _, e.2.symm⟩
theorem Ie.level_dec {next : Rd} (h : Ie.Dec next) (lv : Nat) : Ie.Dec (Ie.level next lv) := fun l y r e => by
  unfold Ie.level at e
  cases hn : next l with
  | none => rw [hn] at e; cases e
  | some q =>
    obtain ⟨x, l'⟩ := q
    rw [hn] at e
    obtain ⟨k, h1, h2, rfl⟩ := h l x l' hn
    obtain ⟨m, h3, rfl⟩ := Ie.more_dec h lv _ _ _ y r e
    rw [List.length_drop] at h3
    exact ⟨k + m, by omega, by omega, by rw [List.drop_drop]⟩
theorem Ie.levels_dec {op : Rd} (h : Ie.Dec op) : ∀ k, Ie.Dec (Ie.levels op k)
  | 0 => h
  | k + 1 => Ie.level_dec (Ie.levels_dec h k) _
theorem Ie.shut_some {s : ByteArray} {o : Option (E × List K)} {x : E} {r : List K} (h : Ie.shut s o = some (x, r)) : ∃ t, o = some (x, t :: r) ∧ Ie.isS t s = true := by
  unfold Ie.shut at h
  split at h
  · rename_i y t l
    split at h
    · rename_i hs
      simp only [Option.some.injEq, Prod.mk.injEq] at h
      obtain ⟨rfl, rfl⟩ := h
      exact ⟨t, rfl, hs⟩
    · cases h
  · cases h
theorem Ie.operS_dec {o e : Rd} (ho : Ie.Dec o) (he : Ie.Dec e) : Ie.Dec (Ie.operS o e) := fun l y r h => by
  cases l with
  | nil => cases h
  | cons t l =>
    have one : ∀ z : E, some (z, l) = some (y, r) → ∃ k, 0 < k ∧ k ≤ (t :: l).length ∧ r = (t :: l).drop k := fun z e => by
      simp only [Option.some.injEq, Prod.mk.injEq] at e
      exact ⟨1, by omega, by simp, e.2.symm⟩
    unfold Ie.operS at h
    dsimp only at h
    split at h
    · exact one _ h
    split at h
    · exact one _ h
    split at h
    · exact one _ h
    split at h
    · split at h
      · split at h
        · cases h
        · rename_i x l' hx
          simp only [Option.some.injEq, Prod.mk.injEq] at h
          obtain ⟨k, h1, h2, rfl⟩ := ho l x l' hx
          exact ⟨k + 1, by omega, by simp; omega, by rw [List.drop_succ_cons]; exact h.2.symm⟩
      · split at h
        · obtain ⟨u, hu, _⟩ := Ie.shut_some h
          obtain ⟨k, h1, h2, h3⟩ := he l y (u :: r) hu
          have hlen := congrArg List.length h3
          rw [List.length_drop, List.length_cons] at hlen
          refine ⟨k + 2, by omega, by simp; omega, ?_⟩
          rw [List.drop_succ_cons, show k + 1 = k + 1 from rfl, ← List.drop_drop, ← h3]
          rfl
        · cases h
    · cases h
theorem Ie.exprS_dec {o e : Rd} (ho : Ie.Dec o) (he : Ie.Dec e) : Ie.Dec (Ie.exprS o e) := fun l y r h => by
  unfold Ie.exprS at h
  cases hx : Ie.levels o 10 l with
  | none => rw [hx] at h; cases h
  | some q =>
    obtain ⟨x, l'⟩ := q
    rw [hx] at h
    obtain ⟨k, h1, h2, h3⟩ := Ie.levels_dec ho 10 l x l' hx
    dsimp only at h
    split at h
    · simp only [Option.some.injEq, Prod.mk.injEq] at h
      exact ⟨k, h1, h2, by rw [← h3]; exact h.2.symm⟩
    · rename_i u l2
      have hlen := congrArg List.length h3
      rw [List.length_drop, List.length_cons] at hlen
      split at h
      · split at h
        · cases h
        · rename_i z r2 hz
          split at h
          · cases h
          · rename_i z' r3 hz'
            simp only [Option.some.injEq, Prod.mk.injEq] at h
            obtain ⟨v, hv, _⟩ := Ie.shut_some hz
            obtain ⟨m, m1, m2, m3⟩ := he _ _ _ hv
            obtain ⟨n, n1, n2, n3⟩ := he _ _ _ hz'
            have hlen2 := congrArg List.length m3
            rw [List.length_drop, List.length_cons] at hlen2
            refine ⟨k + 1 + m + 1 + n, by omega, by omega, ?_⟩
            have e1 : l2 = l.drop (k + 1) := by rw [← List.drop_drop, ← h3]; rfl
            have e2 : r2 = l2.drop (m + 1) := by rw [← List.drop_drop, ← m3]; rfl
            rw [← h.2, n3, e2, e1, List.drop_drop, List.drop_drop]
            exact congrArg (List.drop · l) (by omega)
      · simp only [Option.some.injEq, Prod.mk.injEq] at h
        exact ⟨k, h1, h2, by rw [← h3]; exact h.2.symm⟩
theorem Ie.both_dec : ∀ d, Ie.Dec (Ie.oper d) ∧ Ie.Dec (Ie.expr d)
  | 0 => ⟨fun l x r h => (by cases (show (none : Option (E × List K)) = some (x, r) from h)), fun l x r h => (by cases (show (none : Option (E × List K)) = some (x, r) from h))⟩
  | d + 1 => ⟨Ie.operS_dec (Ie.both_dec d).1 (Ie.both_dec d).2, Ie.exprS_dec (Ie.operS_dec (Ie.both_dec d).1 (Ie.both_dec d).2) (Ie.both_dec d).2⟩

/-! Rows of links. -/
def lkCells : List (ByteArray × E × Value) → List Value
  | [] => []
  | (s, _, u) :: r => .string s :: u :: lkCells r
theorem lkCells_append (a b : List (ByteArray × E × Value)) : lkCells (a ++ b) = lkCells a ++ lkCells b := by
  induction a with
  | nil => rfl
  | cons x r ih => obtain ⟨s, y, u⟩ := x; simp [lkCells, ih]
theorem lkCells_get (a : List (ByteArray × E × Value)) : ∀ (i : Nat) s y u, a[i]? = some (s, y, u) → (lkCells a)[i * 2]? = some (.string s) ∧ (lkCells a)[i * 2 + 1]? = some u := by
  induction a with
  | nil => intro i s y u h; simp at h
  | cons x r ih =>
    intro i s y u h
    obtain ⟨s', y', u'⟩ := x
    cases i with
    | zero => simp at h; obtain ⟨rfl, rfl, rfl⟩ := h; exact ⟨rfl, rfl⟩
    | succ i =>
      simp at h
      have := ih i s y u h
      rw [show (i + 1) * 2 = i * 2 + 2 by omega]
      exact this
theorem infoLink : (Tryz.prog.info? 122).map (fun i => (i.zero, i.size, i.bytes)) = some (some (.agg #[.string ByteArray.empty, .nilIface]), 2, 32) := by kernel_rfl
/-- A row of links, each of which is asked alone. -/
structure LR (W : World) (N R : Nat) (mv : Value) (x : E) (vx : Value) (ys : List (ByteArray × E × Value)) : Prop where
  row : W.ownsRow N 122 2 mv ys.length (lkCells ys)
  first : Ex W (fun g => N ≤ g ∧ g < W.heap.size ∧ mv.ownBlock ≠ some g) x vx
  lv : ∀ (i : Nat) s y u, ys[i]? = some (s, y, u) → Ie.lvS s ≠ 0
  each : ∀ (i : Nat) s y u, ys[i]? = some (s, y, u) → Ex W (fun g => N ≤ g ∧ g < W.heap.size ∧ mv.ownBlock ≠ some g) y u
theorem row_heap9 {W W' : World} {base e sz n : Nat} {v : Value} {cs : List Value} (h : W.ownsRow base e sz v n cs) (hb : ∀ k, v.ownBlock = some k → W'.heap[k]? = W.heap[k]?) : W'.ownsRow base e sz v n cs := by
  refine ⟨h.1, ?_⟩
  rcases h.2 with h' | ⟨g, cap, cur, h', h1, h2, h3⟩
  · exact .inl h'
  · exact .inr ⟨g, cap, cur, h', h1, (hb g (by rw [h']; rfl)).trans h2, h3⟩
theorem LR.start {W : World} {N R : Nat} {x : E} {vx : Value} (h : Ex W (fun g => N ≤ g ∧ g < W.heap.size) x vx) : LR W N R (.slice none 0 0) x vx [] :=
  ⟨⟨by simp [lkCells], .inl ⟨rfl, rfl⟩⟩, h.keep fun b hb => ⟨⟨hb.1, hb.2, by simp [Value.ownBlock]⟩, rfl⟩, fun i s y u h => by simp at h, fun i s y u h => by simp at h⟩
theorem LR.keep {W W' : World} {N R : Nat} {mv : Value} {x : E} {vx : Value} {ys : List (ByteArray × E × Value)} (h : LR W N R mv x vx ys) (hR : R < N) (hF : Fb R W W') : LR W' N R mv x vx ys := by
  have key : ∀ b, (N ≤ b ∧ b < W.heap.size ∧ mv.ownBlock ≠ some b) → (N ≤ b ∧ b < W'.heap.size ∧ mv.ownBlock ≠ some b) ∧ W'.heap[b]? = W.heap[b]? := fun b hb => ⟨⟨hb.1, Nat.lt_of_lt_of_le hb.2.1 hF.size, hb.2.2⟩, hF.block b hb.2.1 (by omega)⟩
  exact ⟨row_heap9 h.row fun k hk => hF.block k (h.row.lt k hk).2 (by have := (h.row.lt k hk).1; omega), h.first.keep key, h.lv, fun i s y u hi => (h.each i s y u hi).keep key⟩
theorem LR.add {W w2 W' : World} {N R : Nat} {mv : Value} {x : E} {vx : Value} {ys : List (ByteArray × E × Value)} {s : ByteArray} {y : E} {u : Value} {g cap : Nat}
    (h : LR W N R mv x vx ys) (hs : Ie.lvS s ≠ 0) (hu : Ex W (fun g => N ≤ g ∧ g < W.heap.size ∧ mv.ownBlock ≠ some g) y u) (hB : Below W.heap.size W w2)
    (hrow : W'.ownsRow N 122 2 (.slice (some ⟨g, 0, none⟩) (ys.length + 1) cap) (ys.length + 1) (lkCells ys ++ [.string s, u])) (hg : w2.grownBy W' mv.ownBlock) (hgo : mv.ownBlock = some g ∨ W.heap.size ≤ g) :
    LR W' N R (.slice (some ⟨g, 0, none⟩) (ys.length + 1) cap) x vx (ys ++ [(s, y, u)]) := by
  have key : ∀ b, (N ≤ b ∧ b < W.heap.size ∧ mv.ownBlock ≠ some b) → (N ≤ b ∧ b < W'.heap.size ∧ (Value.slice (some ⟨g, 0, none⟩) (ys.length + 1) cap).ownBlock ≠ some b) ∧ W'.heap[b]? = W.heap[b]? := fun b hb => by
    have h1 := hB.size
    have h2 := hg.size
    refine ⟨⟨hb.1, by omega, ?_⟩, (hg.block b (by omega) (Ne.symm hb.2.2)).trans (hB.block b hb.2.1)⟩
    intro e
    simp only [Value.ownBlock, Option.some.injEq] at e
    subst e
    rcases hgo with h3 | h3
    · exact hb.2.2 h3
    · omega
  have last : ∀ (i : Nat) s' y' u', (ys ++ [(s, y, u)])[i]? = some (s', y', u') → ys[i]? = some (s', y', u') ∨ (s' = s ∧ y' = y ∧ u' = u) := fun i s' y' u' hi => by
    rw [List.getElem?_append] at hi
    split at hi
    · exact .inl hi
    · right
      cases hj : i - ys.length with
      | zero => rw [hj] at hi; simp at hi; exact ⟨hi.1.symm, hi.2.1.symm, hi.2.2.symm⟩
      | succ j => rw [hj] at hi; simp at hi
  refine ⟨?_, h.first.keep key, fun i s' y' u' hi => ?_, fun i s' y' u' hi => ?_⟩
  · rw [lkCells_append, List.length_append]; exact hrow
  · rcases last i s' y' u' hi with h1 | ⟨rfl, rfl, rfl⟩
    · exact h.lv i s' y' u' h1
    · exact hs
  · rcases last i s' y' u' hi with h1 | ⟨rfl, rfl, rfl⟩
    · exact (h.each i s' y' u' h1).keep key
    · exact hu.keep key
theorem LR.chain {W : World} {N R : Nat} {mv : Value} {x : E} {vx : Value} {ys : List (ByteArray × E × Value)} (h : LR W N R mv x vx ys) (hn : ys ≠ []) :
    Ex W (fun g => N ≤ g ∧ g < W.heap.size) (Ie.fold x ys) (.iface 124 (.agg #[vx, mv])) := by
  have hpos : 0 < ys.length := List.length_pos_iff.2 hn
  have hc := fun g => h.row.cells (g := g)
  rcases h.row.2 with ⟨_, h0⟩ | ⟨g, cap, cur, rfl, _, _, h1, h2, _, _⟩
  · omega
  · have key : ∀ b, (N ≤ b ∧ b < W.heap.size ∧ (Value.slice (some ⟨g, 0, none⟩) ys.length cap).ownBlock ≠ some b) → (N ≤ b ∧ b < W.heap.size) ∧ W.heap[b]? = W.heap[b]? := fun b hb => ⟨⟨hb.1, hb.2.1⟩, rfl⟩
    refine .chain x vx ys g cap (h.first.keep key) (h.row.lt g rfl) h1 h2 (fun i s y u hi => ?_) fun i s y u hi => (h.each i s y u hi).keep key
    have k := lkCells_get ys i s y u hi
    refine ⟨h.lv i s y u hi, ?_, ?_⟩
    · have := hc g rfl (i * 2) _ k.1
      rw [add_none] at this
      simpa using this
    · have := hc g rfl (i * 2 + 1) _ k.2
      rw [add_none] at this
      simpa using this
end Go.Proofs.YtognifnalfjdgaaGreatDoor

/- What is proved: joined reads operands of tighter signs with signs of its level between. -/
namespace Go.Proofs.YtognifnalfjdgaaGreatDoor
open Go.RowKit Go.Shelf
open Ie (E Rd)

/-- A value behind the interface. -/
def IsIf (v : Value) : Prop := ∃ t p, v = .iface t p
theorem IsIf.one {v : Value} (h : IsIf v) : v.oneCell' = true := by obtain ⟨t, p, rfl⟩ := h; rfl
theorem Ex.isIf {w : World} {ok : Nat → Prop} {T : E} {v : Value} (h : Ex w ok T v) : IsIf v := by cases h <;> exact ⟨_, _, rfl⟩
/-- How large tokens may be. -/
def Tb (l : List K) : Prop := l.length ≤ 1000000 ∧ ∀ t ∈ l, t.text.size ≤ 1000000
theorem Tb.drop {l : List K} (h : Tb l) (k : Nat) : Tb (l.drop k) := ⟨by rw [List.length_drop]; have := h.1; omega, fun t ht => h.2 t (List.mem_of_mem_drop ht)⟩
theorem Tb.tail {t : K} {r : List K} (h : Tb (t :: r)) : Tb r := h.drop 1
/-- What reading ends with. -/
def RdPost (R B : Nat) (spec : Option (E × List K)) (b : Bool) (e : Int) (w : World) (en : Ending) (w' : World) : Prop :=
  ∃ v l' b' e', en = .returned v ∧ Fb R w w' ∧ RS w' R B l' b' e' ∧ IsIf v ∧
    ((∃ T, spec = some (T, l') ∧ b' = b ∧ e' = (if T.isBad then 91 else e) ∧ Ex w' (fun g => w.heap.size ≤ g ∧ g < w'.heap.size) T v) ∨ (spec = none ∧ l' = [] ∧ b' = true))
/-- A function that reads so. -/
def Reads (f : FuncId) (args : List Value) (p : Rd) : Prop :=
  ∀ (R B : Nat) (l : List K) (b : Bool) (e : Int) (w : World), Gv w → 3 < R → B ≤ w.heap.size → RS w R B l b e → (b = true → l = []) → Tb l → Calls Tryz.prog f ⟨.pointer (some ⟨R, 0, none⟩) :: args⟩ w (RdPost R B (p l) b e w)
theorem Gv.fb {R : Nat} {w w' : World} (h : Gv w) (hR : 3 < R) (hF : Fb R w w') (hw : 3 < w.heap.size) : Gv w' := by
  have hB : Below 4 w w' := hF.below (by omega) (by omega)
  exact ⟨h.1.below hB (by omega), h.2.below hB (by omega)⟩
theorem Gv.pos {w : World} (h : Gv w) : 3 < w.heap.size := h.1.pos

theorem joined_base (d depth : Nat) (HO : Reads 89 [.int .i64 depth] (Ie.oper d)) : Reads 70 [.int .i64 11, .int .i64 depth] (Ie.oper d) := by
  intro R B l b e w hG hR hBw hRS hb hT
  have K1 := Lib.hid (HO R B l b e w hG hR hBw hRS hb hT)
  clear hG hRS hb hT HO
  go_enter Tryz.func70, Tryz.ntmps70
  go_wp2_with fail
  refine K1.out.mono ?_
  rintro en w2 ⟨v, l', b', e', rfl, h⟩
  have H := Lib.hid h
  clear h
  go_wp2_with fail
  go_ret
  exact ⟨v, l', b', e', rfl, H.out⟩

def leftLen (R : Nat) (w : World) : Nat := match w.cell? ⟨R, 0, none⟩ with | some (.slice _ n _) => n | _ => 0
theorem leftLen_of {w : World} {R B : Nat} {l : List K} {b : Bool} {e : Int} (h : RS w R B l b e) : leftLen R w = l.length := by
  obtain ⟨lv, h1, ad, cap, rfl, -⟩ := h
  unfold leftLen
  rw [(box3v h1).1]
theorem Ie.bad_one (x : Bool) (e : Int) (y : Bool) : (if y = true then (91 : Int) else if x = true then 91 else e) = if (x || y) = true then 91 else e := by cases x <;> cases y <;> rfl

theorem ownsRow_none {w : World} {base e sz : Nat} {v : Value} {cs : List Value} (h : w.ownsRow base e sz v 0 cs) : ∃ ad cap, v = .slice ad 0 cap := by
  rcases h.2 with ⟨h', _⟩ | ⟨g, cap, cur, h', _⟩
  · exact ⟨_, _, h'⟩
  · exact ⟨_, _, h'⟩
theorem ownsRow_some {w : World} {base e sz n m : Nat} {v : Value} {cs : List Value} (h : w.ownsRow base e sz v n cs) (hm : n = m) (hn : n ≠ 0) : ∃ g cap, v = .slice (some ⟨g, 0, none⟩) m cap := by
  rcases h.2 with ⟨_, h0⟩ | ⟨g, cap, cur, h', _⟩
  · exact absurd h0 hn
  · exact ⟨g, cap, by rw [h', hm]⟩
theorem Ie.more_yes {next : Rd} {lv f : Nat} {x y : E} {t : K} {r l' : List K} (h : Ie.lvOf t = lv) (hn : next r = some (y, l')) : Ie.more next lv (f + 1) x (t :: r) = Ie.more next lv f (.bin t.text x y) l' := by
  show (if Ie.lvOf t = lv then _ else _) = _
  rw [if_pos h, hn]
theorem Ie.more_none {next : Rd} {lv f : Nat} {x : E} {t : K} {r : List K} (h : Ie.lvOf t = lv) (hn : next r = none) : Ie.more next lv (f + 1) x (t :: r) = none := by
  show (if Ie.lvOf t = lv then _ else _) = _
  rw [if_pos h, hn]
/-- What holds while links are read. -/
def JInv (N R B L lv : Nat) (next : Rd) (spec : Option (E × List K)) (b : Bool) (e : Int) (x : E) (v : Value) (w wr : World) (mv : Value) : Prop :=
  ∃ l1 b1 e1, RS wr R B l1 b1 e1 ∧ Fb R w wr ∧ ((∃ ys f, LR wr N R mv x v ys ∧ ys.length + l1.length ≤ L ∧ b1 = b ∧ e1 = (if (Ie.fold x ys).isBad then 91 else e) ∧ Tb l1 ∧ (b = true → l1 = []) ∧ l1.length ≤ f ∧ spec = Ie.more next lv f (Ie.fold x ys) l1)
    ∨ (l1 = [] ∧ b1 = true ∧ spec = none ∧ ∃ n cs, wr.ownsRow N 122 2 mv n cs ∧ n ≠ 0))

set_option maxRecDepth 100000 in
set_option maxHeartbeats 8000000 in
theorem joined_step (lv depth : Nat) (next : Rd) (hlv : lv ≤ 10) (hl0 : 1 ≤ lv) (_ : depth ≤ 1000) (HD : Ie.Dec next) (HN : Reads 70 [.int .i64 ((lv : Int) + 1), .int .i64 depth] next) :
    Reads 70 [.int .i64 lv, .int .i64 depth] (Ie.level next lv) := by
  intro R B l b e w hG hR hBw hRS hb hT
  have K1 := Lib.hid (HN R B l b e w hG hR hBw hRS hb hT)
  have HG := Lib.hid hG
  have HT := Lib.hid hT
  have HHD := Lib.hid HD
  have HHN := Lib.hid HN
  have HHB := Lib.hid hb
  obtain ⟨lv0, hRw, -⟩ := hRS
  have hRw := rdr_lt hRw
  have l1 : (lv : Int) ≤ 10 := by omega
  have l2 : (1 : Int) ≤ lv := by omega
  obtain ⟨i0, hi, hz0, hz1, hz2⟩ := info_parts infoLink
  obtain ⟨S, hS⟩ : ∃ S, S = Ie.level next lv l := ⟨_, rfl⟩
  rw [← hS]
  have HS0 := Lib.hid hS
  clear hG hT HD HN hb hS
  go_enter Tryz.func70, Tryz.ntmps70
  go_wp2_with fail
  refine K1.out.mono ?_
  rintro en w2 ⟨v, l2, b2, e2, rfl, hF2, hRS2, hIf, hsp⟩
  obtain ⟨vt, vp, rfl⟩ := hIf
  rcases hsp with ⟨x, hx, rfl, rfl, hEx⟩ | ⟨hx, rfl, rfl⟩
  · have hspec : Ie.level next lv l = Ie.more next lv l2.length x l2 := by unfold Ie.level; rw [hx]
    obtain ⟨k, hk0, hk1, hk2⟩ := HHD.out l x l2 hx
    have hlen : l2.length ≤ l.length := by rw [hk2, List.length_drop]; omega
    have hT2 : Tb l2 := by rw [hk2]; exact HT.out.drop k
    have hb2 : b2 = true → l2 = [] := fun hbt => by
      have := HHB.out hbt
      rw [hk2, this]
      simp
    have hinv : JInv w.heap.size R B l.length lv next (Ie.level next lv l) b2 e x (.iface vt vp) w w2 (.slice none 0 0) :=
      ⟨l2, b2, _, hRS2, hF2, .inl ⟨[], l2.length, LR.start hEx, by simpa using hlen, rfl, rfl, hT2, hb2, Nat.le_refl _, hspec⟩⟩
    obtain ⟨L, hL⟩ : ∃ L, L = l.length := ⟨_, rfl⟩
    have hL1 : L ≤ 1000000 := by rw [hL]; exact HT.out.1
    rw [← HS0.out, ← hL] at hinv
    have HI := Lib.hid hinv
    clear hx hspec hk0 hk1 hk2 hlen hT2 hb2 hL hinv hF2 hRS2 hEx
    go_wp2_with fail
    go_loopw [8] (fun u wr => ∃ mv, mv = u ∧ JInv w.heap.size R B L lv next S b2 e x (.iface vt vp) w wr mv) (fun _ wr => leftLen R wr)
    case atStart => exact ⟨_, rfl, HI.out⟩
    case round =>
      obtain ⟨mv, hmv, l3, b3, e3, hRS, hF, hm⟩ := hrel
      subst hmv
      have hlenL := leftLen_of hRS
      have HL := Lib.hid hlenL
      clear hlenL
      cases l3 with
      | nil =>
        obtain ⟨lv3, hbx, ad, cap, rfl, -⟩ := id hRS
        obtain ⟨c0, -, -⟩ := box3v hbx
        simp only [List.length_nil] at c0
        have HRS := Lib.hid hRS
        have HF := Lib.hid hF
        clear hRS hbx hF
        rcases hm with ⟨ys, f, hLR, hc, rfl, rfl, -, -, -, hspec⟩ | ⟨-, rfl, rfl, n, cs, hrow, hn⟩
        · have hS2 : S = some (Ie.fold x ys, []) := by rw [hspec]; cases f <;> rfl
          have HS := Lib.hid hS2
          clear hspec hS2
          rcases Nat.eq_zero_or_pos ys.length with h0 | hpos
          · obtain rfl : ys = [] := List.length_eq_zero_iff.1 h0
            obtain ⟨mg, mc, rfl⟩ := ownsRow_none hLR.row
            have HLR := Lib.hid hLR
            clear hLR hc
            go_wp2_with fail
            go_ret
            exact ⟨_, [], _, _, rfl, HF.out, HRS.out, ⟨_, _, rfl⟩, .inl ⟨_, HS.out, rfl, rfl, HLR.out.first.keep fun g hg => ⟨⟨hg.1, hg.2.1⟩, rfl⟩⟩⟩
          · have hne : ys ≠ [] := List.length_pos_iff.1 hpos
            have HCH := Lib.hid (hLR.chain hne)
            obtain ⟨n, hn⟩ : ∃ n, n = ys.length := ⟨_, rfl⟩
            obtain ⟨mg, mc, rfl⟩ := ownsRow_some hLR.row hn.symm (by omega)
            have zn : ¬ (n : Int) = 0 := by omega
            clear hLR hc hne hn hpos
            go_wp2_with fail
            go_ret
            exact ⟨_, [], _, _, rfl, HF.out, HRS.out, ⟨_, _, rfl⟩, .inl ⟨_, HS.out, rfl, rfl, HCH.out⟩⟩
        · obtain ⟨mg, mc, rfl⟩ := ownsRow_some hrow rfl hn
          clear hrow
          have zn : ¬ (n : Int) = 0 := by omega
          go_wp2_with fail
          go_ret
          exact ⟨_, [], _, _, rfl, HF.out, HRS.out, ⟨_, _, rfl⟩, .inr ⟨rfl, rfl, rfl⟩⟩
      | cons t r =>
        rcases hm with ⟨ys, f, hLR, hc, rfl, rfl, hT3, hb3, hf, hspec⟩ | ⟨h, -⟩
        · obtain ⟨f, rfl⟩ : ∃ f', f = f' + 1 := ⟨f - 1, by simp at hf; omega⟩
          obtain ⟨lv3, hbx, hLv⟩ := id hRS
          obtain ⟨g, o, cap, rfl, hc1, hc2, -, ⟨d0, d1, d2, d3, d4, d5⟩, htl⟩ := hLv.cons
          unfold maxLen at hc2
          obtain ⟨n, hn⟩ : ∃ n, n = r.length := ⟨_, rfl⟩
          rw [← hn] at hbx hc1 htl
          obtain ⟨c0, -, -⟩ := box3v hbx
          have K2 := Lib.hid (level_any t wr)
          have HRS := Lib.hid hRS
          have HF := Lib.hid hF
          have HLR := Lib.hid hLR
          have HT3 := Lib.hid hT3
          have HB3 := Lib.hid hb3
          have HSP := Lib.hid hspec
          have Hn := Lib.hid hn
          have HTL := Lib.hid htl
          have HC := Lib.hid hc
          have HFf := Lib.hid hf
          have HBX := Lib.hid hbx
          obtain ⟨q, hq⟩ : ∃ q, q = Ie.lvOf t := ⟨_, rfl⟩
          rw [← hq] at K2
          have HQ := Lib.hid hq
          obtain ⟨kd, tx, tf, fr, en, bl⟩ := t
          dsimp only [kAgg] at d0 d1 d2 d3 d4 d5 K2
          clear hRS hLv hF hLR hT3 hb3 hspec hn htl hc hf hbx hq
          have z0 : (0 : Int) ≤ n := by omega
          have z1 : (0 : Int) < (n : Int) + 1 := by omega
          go_wp2_with fail
          refine K2.out.mono ?_
          rintro en4 w4 ⟨rfl, hB4⟩
          have hbx4 := below_heap hB4 HBX.out
          obtain ⟨c0', -, -⟩ := box3v hbx4
          have f0 : w4.frozen? ⟨R, 0, none⟩ = false := Lib.frozen_of_heap hbx4 0
          replace d1 := below_cof hB4 d1
          have HB4 := Lib.hid hB4
          have HBX4 := Lib.hid hbx4
          clear hB4 hbx4 c0 d0 d2 d3 d4 d5 K2
          by_cases hql : q = lv
          · have hql' : (q : Int) = lv := by omega
            rcases Decidable.em (cap = 1) with rfl | hcap
            · obtain rfl : n = 0 := by omega
              have HRS5 := Lib.hid (show RS (w4.setCell ⟨R, 0, none⟩ (.slice (some ⟨g, o, none⟩) 0 0)) R B r b3 (if (Ie.fold x ys).isBad then 91 else e) from ⟨_, rdr_set0 HBX4.out _, ((HTL.out 0 (by omega)).keep (.of HB4.out)).set 0 _⟩)
              have hF5 : Fb R wr (w4.setCell ⟨R, 0, none⟩ (.slice (some ⟨g, o, none⟩) 0 0)) := (Fb.of HB4.out).set 0 _
              go_wp2_with fail
              obtain ⟨W5, hW5⟩ : ∃ W5, W5 = w4.setCell ⟨R, 0, none⟩ (.slice (some ⟨g, o, none⟩) 0 0) := ⟨_, rfl⟩
              rw [← hW5] at hF5 HRS5
              rw [← hW5]
              clear hW5
              have hwr := HF.out.size
              have h5s := hF5.size
              have hLR5 := HLR.out.keep (by omega) hF5
              have hFw5 := HF.out.trans hF5
              refine (HHN.out R B r b3 _ W5 (HG.out.fb hR hFw5 HG.out.pos) hR (by omega) HRS5.out (fun hbt => by have := HB3.out hbt; cases this) HT3.out.tail).mono ?_
              rintro en6 w6 ⟨u, l6, b6, e6, rfl, hF6, hRS6, hIf6, hsp6⟩
              obtain ⟨ut, up, rfl⟩ := hIf6
              have h6s := hF6.size
              have hlt5 : ∀ k, mv.ownBlock = some k → k < W5.heap.size := fun k hk => (hLR5.row.lt k hk).2
              have hmeas : l6.length ≤ r.length := by
                rcases hsp6 with ⟨T, hT6, -⟩ | ⟨-, rfl, -⟩
                · obtain ⟨k, hk0, hk1, hk2⟩ := HHD.out r T l6 hT6
                  rw [hk2, List.length_drop]; omega
                · simp
              have hLR6 := hLR5.keep (by omega) hF6
              have HLT5 := Lib.hid hlt5
              have HMEAS := Lib.hid hmeas
              clear hlt5 hmeas
              have hFw6 := hFw5.trans hF6
              have HLR6 := Lib.hid hLR6
              have HFW := Lib.hid hFw6
              have HRS6 := Lib.hid hRS6
              have HSP6 := Lib.hid hsp6
              have hown := hLR6.row
              have hcn := HC.out
              simp only [List.length_cons] at hcn
              clear hF5 hLR5 hFw5 hF6 hRS6 hsp6 hLR6 hFw6 HRS5
              obtain ⟨m, hm⟩ : ∃ m, m = ys.length := ⟨_, rfl⟩
              obtain ⟨cs, hcs⟩ : ∃ cs, cs = lkCells ys := ⟨_, rfl⟩
              rw [← hm] at hcn
              rw [← hm, ← hcs] at hown
              have HM := Lib.hid hm
              have HCS := Lib.hid hcs
              clear hm hcs
              have HHown := Lib.hid hown
              clear hown
              go_wp2_with (at_builtin; refine wpList_append_lies _ rfl _ _ 119 rfl w.heap.size 122 i0 _ 2 32 Tryz.underlying119 hi hz0 hz1 hz2 rfl (by decide) mv m cs rfl (HHown.out.alloc _) ⟨w6.heap.size, 0, none⟩ 1 1 [.string tx, .iface ut up] rfl rfl (World.news_of_block (cs := #[.string tx, .iface ut up]) (t := 122) (fr := (0, 0)) (heap_alloc_new w6 _)) (by simp [Value.oneCell']) (by decide) (by unfold maxLen; omega) (by omega) (by simp; omega) _ rfl ?_; intro gg cap' w7 hown7 hgrow hat hlt7)
              have hA : Below w6.heap.size w6 (w6.alloc (.cells #[.string tx, .iface ut up] 122)) := Below.alloc (Below.refl _ _) (Nat.le_refl _) _
              have hblk : ∀ k, mv.ownBlock = some k → w.heap.size ≤ k ∧ k < w6.heap.size := fun k hk => by
                have := HHown.out.lt k hk
                exact ⟨this.1, this.2⟩
              have hRS7 := HRS6.out.grown hA hgrow fun k hk => by
                have := hblk k hk
                exact ⟨by omega, by omega⟩
              have hFw7 : Fb R w w7 := ⟨hgrow.os.trans (hA.os.trans HFW.out.os), hgrow.tape.trans (hA.tape.trans HFW.out.tape), hgrow.output.trans (hA.output.trans HFW.out.output), by have := hgrow.size; have := hA.size; omega, fun k hk hn => by
                rw [hgrow.block k (by have := hA.size; omega) (fun e => by have := hblk k e.symm; omega), hA.block k (by omega)]
                exact HFW.out.block k hk hn⟩
              go_roundw
              case rel =>
                refine ⟨_, rfl, l6, b6, e6, hRS7, hFw7, ?_⟩
                rcases HSP6.out with ⟨T, hT6, rfl, rfl, hEx6⟩ | ⟨hN6, rfl, rfl⟩
                · obtain ⟨k, hk0, hk1, hk2⟩ := HHD.out r T l6 hT6
                  have hlen6 : l6.length + k = r.length := by rw [hk2, List.length_drop]; omega
                  refine .inl ⟨ys ++ [(tx, T, .iface ut up)], f, ?_, ?_, rfl, ?_, ?_, ?_, ?_, ?_⟩
                  · have hx := HLR6.out.add (s := tx) (y := T) (u := .iface ut up) (w2 := w6.alloc (.cells #[.string tx, .iface ut up] 122)) (W' := w7) (g := gg) (cap := cap')
                      (by
                        have h1 : Ie.lvOf ⟨kd, tx, tf, fr, en, bl⟩ = lv := by rw [← HQ.out]; exact hql
                        unfold Ie.lvOf at h1
                        split at h1
                        · rw [show Ie.lvS tx = lv from h1]; omega
                        · omega)
                      (hEx6.keep fun x hx => ⟨⟨by omega, hx.2, fun e => by have := HLT5.out x e; have := hx.1; omega⟩, rfl⟩) hA
                      (by rw [← HM.out, ← HCS.out]; exact hown7) hgrow (by
                        rcases hat with h | h
                        · exact .inl h
                        · right; rw [h]; exact hA.size)
                    rw [← HM.out] at hx
                    exact hx
                  · rw [List.length_append, ← HM.out]
                    simp only [List.length_cons, List.length_nil]
                    omega
                  · rw [Ie.fold_snoc]
                    show _ = if ((Ie.fold x ys).isBad || T.isBad) = true then _ else _
                    rw [← Ie.bad_one]
                  · rw [hk2]; exact HT3.out.tail.drop k
                  · intro hbt; have := HB3.out hbt; cases this
                  · have := HFf.out; simp only [List.length_cons] at this; omega
                  · rw [HSP.out, Ie.fold_snoc]
                    exact Ie.more_yes (by rw [← HQ.out]; exact hql) hT6
                · refine .inr ⟨rfl, rfl, ?_, m + 1, _, hown7, by omega⟩
                  rw [HSP.out]
                  exact Ie.more_none (by rw [← HQ.out]; exact hql) hN6
              case measure =>
                rw [leftLen_of hRS7, HL.out]
                have := HMEAS.out
                simp only [List.length_cons]
                omega
            · have HRS5 := Lib.hid (show RS (w4.setCell ⟨R, 0, none⟩ (.slice (some ⟨g, o + 6, none⟩) n (cap - 1))) R B r b3 (if (Ie.fold x ys).isBad then 91 else e) from ⟨_, rdr_set0 HBX4.out _, ((HTL.out 6 (fun _ => rfl)).keep (.of HB4.out)).set 0 _⟩)
              have hF5 : Fb R wr (w4.setCell ⟨R, 0, none⟩ (.slice (some ⟨g, o + 6, none⟩) n (cap - 1))) := (Fb.of HB4.out).set 0 _
              go_wp2_with fail
              obtain ⟨W5, hW5⟩ : ∃ W5, W5 = w4.setCell ⟨R, 0, none⟩ (.slice (some ⟨g, o + 6, none⟩) n (cap - 1)) := ⟨_, rfl⟩
              rw [← hW5] at hF5 HRS5
              rw [← hW5]
              clear hW5
              have hwr := HF.out.size
              have h5s := hF5.size
              have hLR5 := HLR.out.keep (by omega) hF5
              have hFw5 := HF.out.trans hF5
              refine (HHN.out R B r b3 _ W5 (HG.out.fb hR hFw5 HG.out.pos) hR (by omega) HRS5.out (fun hbt => by have := HB3.out hbt; cases this) HT3.out.tail).mono ?_
              rintro en6 w6 ⟨u, l6, b6, e6, rfl, hF6, hRS6, hIf6, hsp6⟩
              obtain ⟨ut, up, rfl⟩ := hIf6
              have h6s := hF6.size
              have hlt5 : ∀ k, mv.ownBlock = some k → k < W5.heap.size := fun k hk => (hLR5.row.lt k hk).2
              have hmeas : l6.length ≤ r.length := by
                rcases hsp6 with ⟨T, hT6, -⟩ | ⟨-, rfl, -⟩
                · obtain ⟨k, hk0, hk1, hk2⟩ := HHD.out r T l6 hT6
                  rw [hk2, List.length_drop]; omega
                · simp
              have hLR6 := hLR5.keep (by omega) hF6
              have HLT5 := Lib.hid hlt5
              have HMEAS := Lib.hid hmeas
              clear hlt5 hmeas
              have hFw6 := hFw5.trans hF6
              have HLR6 := Lib.hid hLR6
              have HFW := Lib.hid hFw6
              have HRS6 := Lib.hid hRS6
              have HSP6 := Lib.hid hsp6
              have hown := hLR6.row
              have hcn := HC.out
              simp only [List.length_cons] at hcn
              clear hF5 hLR5 hFw5 hF6 hRS6 hsp6 hLR6 hFw6 HRS5
              obtain ⟨m, hm⟩ : ∃ m, m = ys.length := ⟨_, rfl⟩
              obtain ⟨cs, hcs⟩ : ∃ cs, cs = lkCells ys := ⟨_, rfl⟩
              rw [← hm] at hcn
              rw [← hm, ← hcs] at hown
              have HM := Lib.hid hm
              have HCS := Lib.hid hcs
              clear hm hcs
              have HHown := Lib.hid hown
              clear hown
              go_wp2_with (at_builtin; refine wpList_append_lies _ rfl _ _ 119 rfl w.heap.size 122 i0 _ 2 32 Tryz.underlying119 hi hz0 hz1 hz2 rfl (by decide) mv m cs rfl (HHown.out.alloc _) ⟨w6.heap.size, 0, none⟩ 1 1 [.string tx, .iface ut up] rfl rfl (World.news_of_block (cs := #[.string tx, .iface ut up]) (t := 122) (fr := (0, 0)) (heap_alloc_new w6 _)) (by simp [Value.oneCell']) (by decide) (by unfold maxLen; omega) (by omega) (by simp; omega) _ rfl ?_; intro gg cap' w7 hown7 hgrow hat hlt7)
              have hA : Below w6.heap.size w6 (w6.alloc (.cells #[.string tx, .iface ut up] 122)) := Below.alloc (Below.refl _ _) (Nat.le_refl _) _
              have hblk : ∀ k, mv.ownBlock = some k → w.heap.size ≤ k ∧ k < w6.heap.size := fun k hk => by
                have := HHown.out.lt k hk
                exact ⟨this.1, this.2⟩
              have hRS7 := HRS6.out.grown hA hgrow fun k hk => by
                have := hblk k hk
                exact ⟨by omega, by omega⟩
              have hFw7 : Fb R w w7 := ⟨hgrow.os.trans (hA.os.trans HFW.out.os), hgrow.tape.trans (hA.tape.trans HFW.out.tape), hgrow.output.trans (hA.output.trans HFW.out.output), by have := hgrow.size; have := hA.size; omega, fun k hk hn => by
                rw [hgrow.block k (by have := hA.size; omega) (fun e => by have := hblk k e.symm; omega), hA.block k (by omega)]
                exact HFW.out.block k hk hn⟩
              go_roundw
              case rel =>
                refine ⟨_, rfl, l6, b6, e6, hRS7, hFw7, ?_⟩
                rcases HSP6.out with ⟨T, hT6, rfl, rfl, hEx6⟩ | ⟨hN6, rfl, rfl⟩
                · obtain ⟨k, hk0, hk1, hk2⟩ := HHD.out r T l6 hT6
                  have hlen6 : l6.length + k = r.length := by rw [hk2, List.length_drop]; omega
                  refine .inl ⟨ys ++ [(tx, T, .iface ut up)], f, ?_, ?_, rfl, ?_, ?_, ?_, ?_, ?_⟩
                  · have hx := HLR6.out.add (s := tx) (y := T) (u := .iface ut up) (w2 := w6.alloc (.cells #[.string tx, .iface ut up] 122)) (W' := w7) (g := gg) (cap := cap')
                      (by
                        have h1 : Ie.lvOf ⟨kd, tx, tf, fr, en, bl⟩ = lv := by rw [← HQ.out]; exact hql
                        unfold Ie.lvOf at h1
                        split at h1
                        · rw [show Ie.lvS tx = lv from h1]; omega
                        · omega)
                      (hEx6.keep fun x hx => ⟨⟨by omega, hx.2, fun e => by have := HLT5.out x e; have := hx.1; omega⟩, rfl⟩) hA
                      (by rw [← HM.out, ← HCS.out]; exact hown7) hgrow (by
                        rcases hat with h | h
                        · exact .inl h
                        · right; rw [h]; exact hA.size)
                    rw [← HM.out] at hx
                    exact hx
                  · rw [List.length_append, ← HM.out]
                    simp only [List.length_cons, List.length_nil]
                    omega
                  · rw [Ie.fold_snoc]
                    show _ = if ((Ie.fold x ys).isBad || T.isBad) = true then _ else _
                    rw [← Ie.bad_one]
                  · rw [hk2]; exact HT3.out.tail.drop k
                  · intro hbt; have := HB3.out hbt; cases this
                  · have := HFf.out; simp only [List.length_cons] at this; omega
                  · rw [HSP.out, Ie.fold_snoc]
                    exact Ie.more_yes (by rw [← HQ.out]; exact hql) hT6
                · refine .inr ⟨rfl, rfl, ?_, m + 1, _, hown7, by omega⟩
                  rw [HSP.out]
                  exact Ie.more_none (by rw [← HQ.out]; exact hql) hN6
              case measure =>
                rw [leftLen_of hRS7, HL.out]
                have := HMEAS.out
                simp only [List.length_cons]
                omega
          · have hql' : ¬ (q : Int) = lv := by omega
            have hS2 : S = some (Ie.fold x ys, (⟨kd, tx, tf, fr, en, bl⟩ : K) :: r) := by
              rw [HSP.out]
              exact if_neg (by rw [← HQ.out]; exact hql)
            have HS := Lib.hid hS2
            have hLR4 := HLR.out.keep (by have := HF.out.size; omega) (.of HB4.out)
            have hF4 := HF.out.then HB4.out
            have hRS4 := HRS.out.keep HB4.out
            have HF4 := Lib.hid hF4
            have HRS4 := Lib.hid hRS4
            clear hS2 hF4 hRS4
            rcases Nat.eq_zero_or_pos ys.length with h0 | hpos
            · obtain rfl : ys = [] := List.length_eq_zero_iff.1 h0
              obtain ⟨mg, mc, rfl⟩ := ownsRow_none hLR4.row
              have HLR4 := Lib.hid hLR4
              clear hLR4
              go_wp2_with fail
              go_ret
              exact ⟨_, _, _, _, rfl, HF4.out, HRS4.out, ⟨_, _, rfl⟩, .inl ⟨_, HS.out, rfl, rfl, HLR4.out.first.keep fun g hg => ⟨⟨hg.1, hg.2.1⟩, rfl⟩⟩⟩
            · have hne : ys ≠ [] := List.length_pos_iff.1 hpos
              have HCH := Lib.hid (hLR4.chain hne)
              obtain ⟨m, hm⟩ : ∃ m, m = ys.length := ⟨_, rfl⟩
              obtain ⟨mg, mc, rfl⟩ := ownsRow_some hLR4.row hm.symm (by omega)
              have zm : ¬ (m : Int) = 0 := by omega
              clear hLR4 hne hm hpos
              go_wp2_with fail
              go_ret
              exact ⟨_, _, _, _, rfl, HF4.out, HRS4.out, ⟨_, _, rfl⟩, .inl ⟨_, HS.out, rfl, rfl, HCH.out⟩⟩
        · cases h
  · have hS2 : S = none := by rw [HS0.out]; unfold Ie.level; rw [hx]
    have HS := Lib.hid hS2
    have HI := Lib.hid (And.intro hRS2 hF2)
    clear hx hS2 hRS2 hF2
    go_wp2_with fail
    go_loopw [8] (fun u wr => u = .slice none 0 0 ∧ RS wr R B [] true e2 ∧ Fb R w wr) (fun _ _ => 0)
    case atStart => exact ⟨rfl, HI.out⟩
    case round =>
      obtain ⟨rfl, hRS, hF⟩ := hrel
      obtain ⟨lv3, hbx, ad, cap, rfl, -⟩ := id hRS
      obtain ⟨c0, -, -⟩ := box3v hbx
      simp only [List.length_nil] at c0
      have HRS := Lib.hid hRS
      have HF := Lib.hid hF
      clear hRS hbx hF
      go_wp2_with fail
      go_ret
      exact ⟨_, [], _, _, rfl, HF.out, HRS.out, ⟨_, _, rfl⟩, .inr ⟨HS.out, rfl, rfl⟩⟩
end Go.Proofs.YtognifnalfjdgaaGreatDoor

/- What is proved: what stands behind a sign, operands, expressions are read as the document says, so deep. -/
namespace Go.Proofs.YtognifnalfjdgaaGreatDoor
open Go.RowKit Go.Shelf
open Ie (E Rd)

def Ie.behindP (s : ByteArray) (o e : Rd) : Rd := fun l =>
  if isUn s then
    match o l with
    | none => none
    | some (x, l') => some (.un s x, l')
  else if s = sLp then shut sRp (e l)
  else none
theorem Ie.shut_yes {s : ByteArray} {x : E} {l : List K} (h : Ie.bg s l = true) : Ie.shut s (some (x, l)) = some (x, l.tail) := by
  cases l with
  | nil => cases h
  | cons t r => exact if_pos h
theorem Ie.shut_no {s : ByteArray} {x : E} {l : List K} (h : Ie.bg s l = false) : Ie.shut s (some (x, l)) = none := by
  cases l with
  | nil => rfl
  | cons t r => exact if_neg (by rw [show Ie.isS t s = false from h]; decide)

set_option maxRecDepth 100000 in
set_option maxHeartbeats 2000000 in
theorem behind_any (s : ByteArray) (depth : Int) (o e : Rd) (HO : Reads 89 [.int .i64 depth] o) (HE : Reads 45 [.int .i64 depth] e) :
    Reads 101 [.string s, .int .i64 depth] (Ie.behindP s o e) := by
  intro R B l b er w hG hR hBw hRS hb hT
  have hRw : R < w.heap.size := by obtain ⟨_, h1, _⟩ := hRS; exact rdr_lt h1
  by_cases hu : Ie.isUn s = true
  · have K1 := Lib.hid (HO R B l b er w hG hR hBw hRS hb hT)
    have hsp : Ie.behindP s o e l = match o l with | none => none | some (x, l') => some (.un s x, l') := if_pos hu
    have HSP := Lib.hid hsp
    clear HO HE hG hRS hb hT hsp
    have fin : ∀ w2 v l' b' e', Fb R w w2 → RS w2 R B l' b' e' → IsIf v → ((∃ T, o l = some (T, l') ∧ b' = b ∧ e' = (if T.isBad then 91 else er) ∧ Ex w2 (fun g => w.heap.size ≤ g ∧ g < w2.heap.size) T v) ∨ (o l = none ∧ l' = [] ∧ b' = true)) →
        RdPost R B (Ie.behindP s o e l) b er w (.returned (.iface 139 (.agg #[.string s, v]))) w2 := fun w2 v l' b' e' hF hR' hv h => by
      refine ⟨_, l', b', e', rfl, hF, hR', ⟨_, _, rfl⟩, ?_⟩
      rcases h with ⟨T, hT, rfl, rfl, hE⟩ | ⟨hN, rfl, rfl⟩
      · exact .inl ⟨.un s T, by rw [HSP.out, hT], rfl, rfl, .un s T v hE⟩
      · exact .inr ⟨by rw [HSP.out, hN], rfl, rfl⟩
    have FIN := Lib.hid fin
    clear fin
    have hu4 : s = Ie.sAdd ∨ s = Ie.sSub ∨ s = Ie.sNot ∨ s = Ie.sTil := by
      unfold Ie.isUn at hu
      simp only [Bool.or_eq_true, decide_eq_true_iff] at hu
      rcases hu with ((h | h) | h) | h
      · exact .inl h
      · exact .inr (.inl h)
      · exact .inr (.inr (.inl h))
      · exact .inr (.inr (.inr h))
    clear hu
    rcases hu4 with hs | hs | hs | hs
    · have e0 : (s.toList == [43]) = true := lit_yes hs
      have e1 : (s.toList == [45]) = false := lit_no (by rw [hs]; decide)
      have e2 : (s.toList == [33]) = false := lit_no (by rw [hs]; decide)
      have e3 : (s.toList == [126]) = false := lit_no (by rw [hs]; decide)
      clear hs
      go_enter Tryz.func101, Tryz.ntmps101
      go_wp2_with fail
      refine K1.out.mono ?_
      rintro en w2 ⟨v, l2, b2, e2, rfl, hF2, hRS2, hIf2, hsp2⟩
      have HX := Lib.hid (FIN.out w2 v l2 b2 e2 hF2 hRS2 hIf2 hsp2)
      clear hF2 hRS2 hsp2
      obtain ⟨vt, vp, rfl⟩ := hIf2
      go_wp2_with fail
      go_ret
      exact HX.out
    · have e0 : (s.toList == [43]) = false := lit_no (by rw [hs]; decide)
      have e1 : (s.toList == [45]) = true := lit_yes hs
      have e2 : (s.toList == [33]) = false := lit_no (by rw [hs]; decide)
      have e3 : (s.toList == [126]) = false := lit_no (by rw [hs]; decide)
      clear hs
      go_enter Tryz.func101, Tryz.ntmps101
      go_wp2_with fail
      refine K1.out.mono ?_
      rintro en w2 ⟨v, l2, b2, e2, rfl, hF2, hRS2, hIf2, hsp2⟩
      have HX := Lib.hid (FIN.out w2 v l2 b2 e2 hF2 hRS2 hIf2 hsp2)
      clear hF2 hRS2 hsp2
      obtain ⟨vt, vp, rfl⟩ := hIf2
      go_wp2_with fail
      go_ret
      exact HX.out
    · have e0 : (s.toList == [43]) = false := lit_no (by rw [hs]; decide)
      have e1 : (s.toList == [45]) = false := lit_no (by rw [hs]; decide)
      have e2 : (s.toList == [33]) = true := lit_yes hs
      have e3 : (s.toList == [126]) = false := lit_no (by rw [hs]; decide)
      clear hs
      go_enter Tryz.func101, Tryz.ntmps101
      go_wp2_with fail
      refine K1.out.mono ?_
      rintro en w2 ⟨v, l2, b2, e2, rfl, hF2, hRS2, hIf2, hsp2⟩
      have HX := Lib.hid (FIN.out w2 v l2 b2 e2 hF2 hRS2 hIf2 hsp2)
      clear hF2 hRS2 hsp2
      obtain ⟨vt, vp, rfl⟩ := hIf2
      go_wp2_with fail
      go_ret
      exact HX.out
    · have e0 : (s.toList == [43]) = false := lit_no (by rw [hs]; decide)
      have e1 : (s.toList == [45]) = false := lit_no (by rw [hs]; decide)
      have e2 : (s.toList == [33]) = false := lit_no (by rw [hs]; decide)
      have e3 : (s.toList == [126]) = true := lit_yes hs
      clear hs
      go_enter Tryz.func101, Tryz.ntmps101
      go_wp2_with fail
      refine K1.out.mono ?_
      rintro en w2 ⟨v, l2, b2, e2, rfl, hF2, hRS2, hIf2, hsp2⟩
      have HX := Lib.hid (FIN.out w2 v l2 b2 e2 hF2 hRS2 hIf2 hsp2)
      clear hF2 hRS2 hsp2
      obtain ⟨vt, vp, rfl⟩ := hIf2
      go_wp2_with fail
      go_ret
      exact HX.out
  · have hsp : Ie.behindP s o e l = if s = Ie.sLp then Ie.shut Ie.sRp (e l) else none := if_neg hu
    have h0 : ¬ s = Ie.sAdd := fun h => hu (by rw [h]; decide)
    have h1 : ¬ s = Ie.sSub := fun h => hu (by rw [h]; decide)
    have h2 : ¬ s = Ie.sNot := fun h => hu (by rw [h]; decide)
    have h3 : ¬ s = Ie.sTil := fun h => hu (by rw [h]; decide)
    have e0 : (s.toList == [43]) = false := lit_no h0
    have e1 : (s.toList == [45]) = false := lit_no h1
    have e2 : (s.toList == [33]) = false := lit_no h2
    have e3 : (s.toList == [126]) = false := lit_no h3
    clear hu h0 h1 h2 h3
    by_cases h4 : s = Ie.sLp
    · have e4 : (s.toList == [40]) = true := lit_yes h4
      rw [if_pos h4] at hsp
      have HSP := Lib.hid hsp
      have K1 := Lib.hid (HE R B l b er w hG hR hBw hRS hb hT)
      clear hsp h4 HO HE hG hRS hb hT
      go_enter Tryz.func101, Tryz.ntmps101
      go_wp2_with fail
      refine K1.out.mono ?_
      rintro en w2 ⟨v, l2, b2, e2, rfl, hF2, hRS2, hIf2, hsp2⟩
      have K2 := Lib.hid (must_any R B Ie.sRp l2 b2 e2 w2 hRS2)
      have HF2 := Lib.hid hF2
      have HIF := Lib.hid hIf2
      have HS2 := Lib.hid hsp2
      clear hF2 hRS2 hIf2 hsp2
      go_wp2_with fail
      refine K2.out.mono ?_
      rintro en w3 ⟨rfl, hF3, hRS3⟩
      have H3 := Lib.hid (And.intro hF3 hRS3)
      clear hF3 hRS3
      go_wp2_with fail
      go_ret
      refine ⟨_, _, _, _, rfl, HF2.out.trans H3.out.1, H3.out.2, HIF.out, ?_⟩
      rcases HS2.out with ⟨T, hT, rfl, rfl, hE⟩ | ⟨hN, rfl, rfl⟩
      · cases hq : Ie.bg Ie.sRp l2 with
        | true => exact .inl ⟨T, by rw [HSP.out, hT]; exact Ie.shut_yes hq, rfl, rfl, hE.keep fun g hg => ⟨⟨hg.1, Nat.lt_of_lt_of_le hg.2 H3.out.1.size⟩, H3.out.1.block g hg.2 (by omega)⟩⟩
        | false => exact .inr ⟨by rw [HSP.out, hT]; exact Ie.shut_no hq, rfl, rfl⟩
      · exact .inr ⟨by rw [HSP.out, hN]; rfl, rfl, rfl⟩
    · have e4 : (s.toList == [40]) = false := lit_no h4
      rw [if_neg h4] at hsp
      have HSP := Lib.hid hsp
      have K1 := Lib.hid (breaks_any R B l b er w hRS)
      clear hsp h4 HO HE hG hRS hb hT
      go_enter Tryz.func101, Tryz.ntmps101
      go_wp2_with fail
      refine K1.out.mono ?_
      rintro en w2 ⟨rfl, hF2, hRS2⟩
      have H3 := Lib.hid (And.intro hF2 hRS2)
      clear hF2 hRS2
      go_wp2_with fail
      go_ret
      exact ⟨_, _, _, _, rfl, H3.out.1, H3.out.2, ⟨_, _, rfl⟩, .inr ⟨HSP.out, rfl, rfl⟩⟩
end Go.Proofs.YtognifnalfjdgaaGreatDoor
