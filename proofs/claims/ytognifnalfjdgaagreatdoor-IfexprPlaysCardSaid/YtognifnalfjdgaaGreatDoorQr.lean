/- What is proved: what Number tells. (and what stands with it) -/
import Derived.Test.YtognifnalfjdgaaGreatDoorQo
import Derived.Test.YtognifnalfjdgaaGreatDoorQp
import Derived.Test.YtognifnalfjdgaaGreatDoorQq
import Derived.Test.YtognifnalfjdgaaGreatDoorQj
import Derived.Test.YtognifnalfjdgaaGreatDoorQh

/- What is proved: what Number tells. -/
namespace Go.Proofs.YtognifnalfjdgaaGreatDoor
open Go.RowKit Go.Shelf

theorem has_rev (l : List UInt8) (c : UInt8) : Lib.hasSuffix l [c] = match l.reverse with | [] => false | d :: _ => c == d := by
  show ([c] : List UInt8).reverse.isPrefixOf l.reverse = _
  cases l.reverse with
  | nil => rfl
  | cons d t => show ((c == d) && List.isPrefixOf [] t) = _; simp
theorem has_rev2 (l : List UInt8) (c : UInt8) : Lib.hasSuffix l [c, c] = match l.reverse with | d :: e :: _ => c == d && c == e | _ => false := by
  show ([c, c] : List UInt8).reverse.isPrefixOf l.reverse = _
  match l.reverse with
  | [] => rfl
  | [d] => show ((c == d) && List.isPrefixOf [c] []) = _; simp
  | d :: e :: t => show ((c == d) && ((c == e) && List.isPrefixOf [] t)) = _; simp
theorem trim_rev (l s : List UInt8) (h : Lib.hasSuffix l s = true) : Lib.trimSuffix l s = (l.reverse.drop s.length).reverse := by
  unfold Lib.trimSuffix
  rw [if_pos h, List.drop_reverse, List.reverse_reverse]
theorem trim_no (l s : List UInt8) (h : Lib.hasSuffix l s = false) : Lib.trimSuffix l s = l := by
  unfold Lib.trimSuffix
  rw [if_neg (by rw [h]; decide)]

namespace Ie
def wU (l : List UInt8) : List UInt8 × Bool := if Lib.hasSuffix l [117] then (Lib.trimSuffix l [117], true) else (Lib.trimSuffix l [85], Lib.hasSuffix l [85])
def wL (l : List UInt8) : List UInt8 :=
  if Lib.hasSuffix l [108, 108] then Lib.trimSuffix l [108, 108] else if Lib.hasSuffix l [76, 76] then Lib.trimSuffix l [76, 76]
  else if Lib.hasSuffix l [108] then Lib.trimSuffix l [108] else if Lib.hasSuffix l [76] then Lib.trimSuffix l [76] else l
theorem wU_eq (l : List UInt8) : wU l = match dU l.reverse with | some t => (t.reverse, true) | none => (l, false) := by
  unfold wU
  have h1 := has_rev l 117
  have h2 := has_rev l 85
  have t1 := trim_rev l [117]
  have t2 := trim_rev l [85]
  have t3 := trim_no l [85]
  cases hr : l.reverse with
  | nil =>
    rw [hr] at h1 h2
    rw [if_neg (by rw [h1]; decide), h2, t3 h2]
    rfl
  | cons d t =>
    rw [hr] at h1 h2 t1 t2
    by_cases hd : d = 117
    · have h1' : Lib.hasSuffix l [117] = true := by rw [h1, hd]; rfl
      rw [if_pos h1', t1 h1', hd]
      rfl
    · have h1' : Lib.hasSuffix l [117] = false := by rw [h1]; exact beq_eq_false_iff_ne.2 (Ne.symm hd)
      rw [if_neg (by rw [h1']; decide)]
      by_cases hd2 : d = 85
      · have h2' : Lib.hasSuffix l [85] = true := by rw [h2, hd2]; rfl
        rw [t2 h2', h2', hd2]
        rfl
      · have h2' : Lib.hasSuffix l [85] = false := by rw [h2]; exact beq_eq_false_iff_ne.2 (Ne.symm hd2)
        rw [t3 h2', h2']
        have e : dU (d :: t) = none := by
          show (if d = 117 then some t else if d = 85 then some t else none) = none
          rw [if_neg hd, if_neg hd2]
        rw [e]
theorem wL_eq (l : List UInt8) : wL l = (dL l.reverse).reverse := by
  unfold wL
  have h1 := has_rev2 l 108
  have h2 := has_rev2 l 76
  have h3 := has_rev l 108
  have h4 := has_rev l 76
  have t1 := trim_rev l [108, 108]
  have t2 := trim_rev l [76, 76]
  have t3 := trim_rev l [108]
  have t4 := trim_rev l [76]
  have e0 : l = l.reverse.reverse := l.reverse_reverse.symm
  match hr : l.reverse with
  | [] =>
    rw [hr] at h1 h2 h3 h4 e0
    rw [if_neg (by rw [h1]; decide), if_neg (by rw [h2]; decide), if_neg (by rw [h3]; decide), if_neg (by rw [h4]; decide)]
    exact e0
  | [c] =>
    rw [hr] at h1 h2 h3 h4 t3 t4 e0
    rw [if_neg (by rw [h1]; simp), if_neg (by rw [h2]; simp)]
    show _ = (if c = 108 then [] else if c = 76 then [] else [c]).reverse
    by_cases hc : c = 108
    · have h : Lib.hasSuffix l [108] = true := by rw [h3, hc]; rfl
      rw [if_pos h, t3 h, if_pos hc]; rfl
    · rw [if_neg (by rw [h3]; simpa using Ne.symm hc)]
      by_cases hc2 : c = 76
      · have h : Lib.hasSuffix l [76] = true := by rw [h4, hc2]; rfl
        rw [if_pos h, t4 h, if_neg hc, if_pos hc2]; rfl
      · rw [if_neg (by rw [h4]; simpa using Ne.symm hc2), if_neg hc, if_neg hc2]
        exact e0
  | c :: d :: t =>
    rw [hr] at h1 h2 h3 h4 t1 t2 t3 t4 e0
    show _ = (if c = 108 ∧ d = 108 then t else if c = 76 ∧ d = 76 then t else if c = 108 then d :: t else if c = 76 then d :: t else c :: d :: t).reverse
    by_cases a1 : c = 108 ∧ d = 108
    · have h : Lib.hasSuffix l [108, 108] = true := by rw [h1, a1.1, a1.2]; rfl
      rw [if_pos h, t1 h, if_pos a1]; rfl
    · rw [if_neg (by rw [h1]; simp only [Bool.and_eq_true, beq_iff_eq]; exact fun h => a1 ⟨h.1.symm, h.2.symm⟩), if_neg a1]
      by_cases a2 : c = 76 ∧ d = 76
      · have h : Lib.hasSuffix l [76, 76] = true := by rw [h2, a2.1, a2.2]; rfl
        rw [if_pos h, t2 h, if_pos a2]; rfl
      · rw [if_neg (by rw [h2]; simp only [Bool.and_eq_true, beq_iff_eq]; exact fun h => a2 ⟨h.1.symm, h.2.symm⟩), if_neg a2]
        by_cases hc : c = 108
        · have h : Lib.hasSuffix l [108] = true := by rw [h3, hc]; rfl
          rw [if_pos h, t3 h, if_pos hc]; rfl
        · rw [if_neg (by rw [h3]; simpa using Ne.symm hc)]
          by_cases hc2 : c = 76
          · have h : Lib.hasSuffix l [76] = true := by rw [h4, hc2]; rfl
            rw [if_pos h, t4 h, if_neg hc, if_pos hc2]; rfl
          · rw [if_neg (by rw [h4]; simpa using Ne.symm hc2), if_neg hc, if_neg hc2]
            exact e0
theorem bare_eq (l : List UInt8) : bare l = if (wU l).2 then wL (wU l).1 else (wU (wL l)).1 := by
  rw [wU_eq, wU_eq, wL_eq, wL_eq, List.reverse_reverse]
  unfold bare rb
  cases h : dU l.reverse with
  | some t =>
    dsimp only
    rw [if_pos rfl, List.reverse_reverse]
  | none =>
    dsimp only
    rw [if_neg (by decide)]
    cases h2 : dU (dL l.reverse) with
    | some t => rfl
    | none => rfl
end Ie

def ba (l : List UInt8) : ByteArray := ⟨l.toArray⟩
theorem ba_list (l : List UInt8) : (ba l).data.toList = l := rfl
theorem ba_of (s : ByteArray) : ba s.data.toList = s := rfl
theorem ba_size (l : List UInt8) : (ba l).size = l.length := rfl
theorem cut_any (s p : ByteArray) (w : World) (hs : s.size ≤ 1000000) :
    Calls Tryz.prog 82 #[.string s, .string p] w fun e w' => e = .returned (.tuple #[.string (ba (Lib.trimSuffix s.data.toList p.data.toList)), .bool (Lib.hasSuffix s.data.toList p.data.toList)]) ∧ w' = w :=
  Any.strings_CutSuffix lays104 s p w (by omega)
set_option maxRecDepth 100000 in
theorem woU_any (s : ByteArray) (w : World) (hs : s.size ≤ 1000000) :
    Calls Tryz.prog 65 #[.string s] w fun e w' => e = .returned (.tuple #[.string (ba (Ie.wU s.data.toList).1), .bool (Ie.wU s.data.toList).2]) ∧ w' = w := by
  have K1 := Lib.hid (cut_any s ⟨#[117]⟩ w hs)
  have K2 := Lib.hid (cut_any s ⟨#[85]⟩ w hs)
  have e1 : Ie.wU s.data.toList = if Lib.hasSuffix s.data.toList (⟨#[117]⟩ : ByteArray).data.toList then (Lib.trimSuffix s.data.toList (⟨#[117]⟩ : ByteArray).data.toList, true) else (Lib.trimSuffix s.data.toList (⟨#[85]⟩ : ByteArray).data.toList, Lib.hasSuffix s.data.toList (⟨#[85]⟩ : ByteArray).data.toList) := rfl
  obtain ⟨a, ha⟩ : ∃ a, a = Lib.hasSuffix s.data.toList (⟨#[117]⟩ : ByteArray).data.toList := ⟨_, rfl⟩
  obtain ⟨b, hb⟩ : ∃ b, b = Lib.hasSuffix s.data.toList (⟨#[85]⟩ : ByteArray).data.toList := ⟨_, rfl⟩
  obtain ⟨x, hx⟩ : ∃ x, x = Lib.trimSuffix s.data.toList (⟨#[117]⟩ : ByteArray).data.toList := ⟨_, rfl⟩
  obtain ⟨y, hy⟩ : ∃ y, y = Lib.trimSuffix s.data.toList (⟨#[85]⟩ : ByteArray).data.toList := ⟨_, rfl⟩
  rw [← ha, ← hb, ← hx, ← hy] at e1
  rw [← ha, ← hx] at K1
  rw [← hb, ← hy] at K2
  rw [e1]
  clear ha hb hx hy e1
  go_enter Tryz.func65, Tryz.ntmps65
  go_wp2_with fail
  refine K1.out.mono ?_
  rintro e w' ⟨rfl, rfl⟩
  cases a with
  | true =>
    go_wp2_with fail
    go_ret2
    exact ⟨rfl, rfl⟩
  | false =>
    go_wp2_with fail
    refine K2.out.mono ?_
    rintro e w' ⟨rfl, rfl⟩
    go_wp2_with fail
    go_ret2
    exact ⟨rfl, rfl⟩

def sfxArr : Value := .agg #[.string ⟨#[108, 108]⟩, .string ⟨#[76, 76]⟩, .string ⟨#[108]⟩, .string ⟨#[76]⟩]
theorem idx_sfx (k : Nat) (v : Value) (h : (#[.string ⟨#[108, 108]⟩, .string ⟨#[76, 76]⟩, .string ⟨#[108]⟩, .string ⟨#[76]⟩] : Array Value)[k]? = some v) (hk : (k : Int) < 4) (W : World) :
    (Instr.index 113 (.agg #[.string ⟨#[108, 108]⟩, .string ⟨#[76, 76]⟩, .string ⟨#[108]⟩, .string ⟨#[76]⟩]) (.int .i64 k)).run Tryz.prog W = .ok v W := by
  obtain ⟨A, hA⟩ : ∃ A, A = (#[.string ⟨#[108, 108]⟩, .string ⟨#[76, 76]⟩, .string ⟨#[108]⟩, .string ⟨#[76]⟩] : Array Value) := ⟨_, rfl⟩
  rw [← hA] at h ⊢
  clear hA
  simp [Instr.index, run_underlying Tryz.underlying113, asIntOf, part, Tryz.isAgg9, Tryz.sizeOf9, h, go_sem]
  intro h
  omega
set_option maxRecDepth 100000 in
set_option maxHeartbeats 1000000 in
theorem woL_any (s : ByteArray) (w : World) (hs : s.size ≤ 1000000) :
    Calls Tryz.prog 66 #[.string s] w fun e w' => e = .returned (.string (ba (Ie.wL s.data.toList))) ∧ w' = w := by
  have K1 := Lib.hid (cut_any s ⟨#[108, 108]⟩ w hs)
  have K2 := Lib.hid (cut_any s ⟨#[76, 76]⟩ w hs)
  have K3 := Lib.hid (cut_any s ⟨#[108]⟩ w hs)
  have K4 := Lib.hid (cut_any s ⟨#[76]⟩ w hs)
  obtain ⟨l, hl⟩ : ∃ l, l = s.data.toList := ⟨_, rfl⟩
  rw [← hl] at K1 K2 K3 K4
  have hba : s = ba l := by rw [hl]; rfl
  have e1 : Ie.wL l = if Lib.hasSuffix l (⟨#[108, 108]⟩ : ByteArray).data.toList then Lib.trimSuffix l (⟨#[108, 108]⟩ : ByteArray).data.toList else if Lib.hasSuffix l (⟨#[76, 76]⟩ : ByteArray).data.toList then Lib.trimSuffix l (⟨#[76, 76]⟩ : ByteArray).data.toList
    else if Lib.hasSuffix l (⟨#[108]⟩ : ByteArray).data.toList then Lib.trimSuffix l (⟨#[108]⟩ : ByteArray).data.toList else if Lib.hasSuffix l (⟨#[76]⟩ : ByteArray).data.toList then Lib.trimSuffix l (⟨#[76]⟩ : ByteArray).data.toList else l := rfl
  rw [← hl]
  obtain ⟨a1, h1⟩ : ∃ a, a = Lib.hasSuffix l (⟨#[108, 108]⟩ : ByteArray).data.toList := ⟨_, rfl⟩
  obtain ⟨a2, h2⟩ : ∃ a, a = Lib.hasSuffix l (⟨#[76, 76]⟩ : ByteArray).data.toList := ⟨_, rfl⟩
  obtain ⟨a3, h3⟩ : ∃ a, a = Lib.hasSuffix l (⟨#[108]⟩ : ByteArray).data.toList := ⟨_, rfl⟩
  obtain ⟨a4, h4⟩ : ∃ a, a = Lib.hasSuffix l (⟨#[76]⟩ : ByteArray).data.toList := ⟨_, rfl⟩
  obtain ⟨x1, y1⟩ : ∃ a, a = Lib.trimSuffix l (⟨#[108, 108]⟩ : ByteArray).data.toList := ⟨_, rfl⟩
  obtain ⟨x2, y2⟩ : ∃ a, a = Lib.trimSuffix l (⟨#[76, 76]⟩ : ByteArray).data.toList := ⟨_, rfl⟩
  obtain ⟨x3, y3⟩ : ∃ a, a = Lib.trimSuffix l (⟨#[108]⟩ : ByteArray).data.toList := ⟨_, rfl⟩
  obtain ⟨x4, y4⟩ : ∃ a, a = Lib.trimSuffix l (⟨#[76]⟩ : ByteArray).data.toList := ⟨_, rfl⟩
  rw [← h1, ← h2, ← h3, ← h4, ← y1, ← y2, ← y3, ← y4] at e1
  rw [← h1, ← y1] at K1
  rw [← h2, ← y2] at K2
  rw [← h3, ← y3] at K3
  rw [← h4, ← y4] at K4
  rw [e1]
  have HBA := Lib.hid hba
  have ix0 : ∀ W, (Instr.index 113 (.agg #[.string ⟨#[108, 108]⟩, .string ⟨#[76, 76]⟩, .string ⟨#[108]⟩, .string ⟨#[76]⟩]) (.int .i64 0)).run Tryz.prog W = .ok (.string ⟨#[108, 108]⟩) W := idx_sfx 0 _ rfl (by decide)
  have ix1 : ∀ W, (Instr.index 113 (.agg #[.string ⟨#[108, 108]⟩, .string ⟨#[76, 76]⟩, .string ⟨#[108]⟩, .string ⟨#[76]⟩]) (.int .i64 1)).run Tryz.prog W = .ok (.string ⟨#[76, 76]⟩) W := idx_sfx 1 _ rfl (by decide)
  have ix2 : ∀ W, (Instr.index 113 (.agg #[.string ⟨#[108, 108]⟩, .string ⟨#[76, 76]⟩, .string ⟨#[108]⟩, .string ⟨#[76]⟩]) (.int .i64 2)).run Tryz.prog W = .ok (.string ⟨#[108]⟩) W := idx_sfx 2 _ rfl (by decide)
  have ix3 : ∀ W, (Instr.index 113 (.agg #[.string ⟨#[108, 108]⟩, .string ⟨#[76, 76]⟩, .string ⟨#[108]⟩, .string ⟨#[76]⟩]) (.int .i64 3)).run Tryz.prog W = .ok (.string ⟨#[76]⟩) W := idx_sfx 3 _ rfl (by decide)
  clear h1 h2 h3 h4 y1 y2 y3 y4 e1 hl hba
  go_enter Tryz.func66, Tryz.ntmps66
  go_wp2_with fail
  go_loop [8] (fun i => (i = .int .i64 0) ∨ (i = .int .i64 1 ∧ a1 = false) ∨ (i = .int .i64 2 ∧ a1 = false ∧ a2 = false) ∨ (i = .int .i64 3 ∧ a1 = false ∧ a2 = false ∧ a3 = false) ∨ (i = .int .i64 4 ∧ a1 = false ∧ a2 = false ∧ a3 = false ∧ a4 = false)) (fun i => 4 - (intOf i).toNat)
  case atStart => exact .inl rfl
  case round =>
    rcases hrel with rfl | ⟨rfl, rfl⟩ | ⟨rfl, rfl, rfl⟩ | ⟨rfl, rfl, rfl, rfl⟩ | ⟨rfl, rfl, rfl, rfl, rfl⟩
    · go_wp2_with fail
      refine K1.out.mono ?_
      rintro e w' ⟨rfl, rfl⟩
      cases a1 with
      | true => go_wp2_with fail; go_ret; exact ⟨rfl, rfl⟩
      | false =>
        go_wp2_with fail
        go_round
        case rel => simp
        case measure => simp [intOf]
    · go_wp2_with fail
      refine K2.out.mono ?_
      rintro e w' ⟨rfl, rfl⟩
      cases a2 with
      | true => go_wp2_with fail; go_ret; exact ⟨rfl, rfl⟩
      | false =>
        go_wp2_with fail
        go_round
        case rel => simp
        case measure => simp [intOf]
    · go_wp2_with fail
      refine K3.out.mono ?_
      rintro e w' ⟨rfl, rfl⟩
      cases a3 with
      | true => go_wp2_with fail; go_ret; exact ⟨rfl, rfl⟩
      | false =>
        go_wp2_with fail
        go_round
        case rel => simp
        case measure => simp [intOf]
    · go_wp2_with fail
      refine K4.out.mono ?_
      rintro e w' ⟨rfl, rfl⟩
      cases a4 with
      | true => go_wp2_with fail; go_ret; exact ⟨rfl, rfl⟩
      | false =>
        go_wp2_with fail
        go_round
        case rel => simp
        case measure => simp [intOf]
    · go_wp2_with fail
      go_ret
      refine ⟨?_, rfl⟩
      rw [HBA.out]
      rfl
end Go.Proofs.YtognifnalfjdgaaGreatDoor

/- What is proved: what Number tells. -/
namespace Go.Proofs.YtognifnalfjdgaaGreatDoor
open Go.RowKit Go.Shelf

theorem len_trim (l s : List UInt8) : (Lib.trimSuffix l s).length ≤ l.length := by
  unfold Lib.trimSuffix
  split
  · rw [List.length_take]; omega
  · exact Nat.le_refl _
theorem len_wU (l : List UInt8) : (Ie.wU l).1.length ≤ l.length := by
  unfold Ie.wU
  split
  · exact len_trim _ _
  · exact len_trim _ _
theorem len_wL (l : List UInt8) : (Ie.wL l).length ≤ l.length := by
  unfold Ie.wL
  repeat' split
  all_goals first | exact len_trim _ _ | exact Nat.le_refl _
theorem len_bare (l : List UInt8) : (Ie.bare l).length ≤ l.length := by
  rw [Ie.bare_eq]
  split
  · exact Nat.le_trans (len_wL _) (len_wU _)
  · exact Nat.le_trans (len_wU _) (len_wL _)

set_option maxRecDepth 100000 in
theorem bare_any (s : ByteArray) (w : World) (hs : s.size ≤ 1000000) : Calls Tryz.prog 36 #[.string s] w fun e w' => e = .returned (.string (ba (Ie.bare s.data.toList))) ∧ w' = w := by
  have hsz : s.size = s.data.toList.length := Lib.size_eq s
  have K1 := Lib.hid (woU_any s w hs)
  have K2 := Lib.hid (woL_any (ba (Ie.wU s.data.toList).1) w (by rw [ba_size]; have := len_wU s.data.toList; omega))
  have K3 := Lib.hid (woL_any s w hs)
  have K4 := Lib.hid (woU_any (ba (Ie.wL s.data.toList)) w (by rw [ba_size]; have := len_wL s.data.toList; omega))
  rw [ba_list] at K2 K4
  rw [Ie.bare_eq]
  obtain ⟨x, hx⟩ : ∃ x, x = (Ie.wU s.data.toList).1 := ⟨_, rfl⟩
  obtain ⟨a, ha⟩ : ∃ a, a = (Ie.wU s.data.toList).2 := ⟨_, rfl⟩
  obtain ⟨y, hy⟩ : ∃ y, y = Ie.wL s.data.toList := ⟨_, rfl⟩
  obtain ⟨z, hz⟩ : ∃ z, z = Ie.wL x := ⟨_, rfl⟩
  obtain ⟨u, hu⟩ : ∃ u, u = (Ie.wU y).1 := ⟨_, rfl⟩
  rw [← hx, ← ha] at K1
  rw [← hx, ← hz] at K2
  rw [← hy] at K3 K4
  rw [← hu] at K4
  rw [← hx, ← ha, ← hy, ← hz, ← hu]
  obtain ⟨bx, hbx⟩ : ∃ bx, bx = ba x := ⟨_, rfl⟩
  obtain ⟨by', hby⟩ : ∃ bx, bx = ba y := ⟨_, rfl⟩
  obtain ⟨bz, hbz⟩ : ∃ bx, bx = ba z := ⟨_, rfl⟩
  obtain ⟨bu, hbu⟩ : ∃ bx, bx = ba u := ⟨_, rfl⟩
  rw [← hbx] at K1 K2
  rw [← hbz] at K2
  rw [← hby] at K3 K4
  rw [← hbu] at K4
  have HBZ := Lib.hid hbz
  have HBU := Lib.hid hbu
  clear hx ha hy hz hu hbx hby hbz hbu hs hsz
  go_enter Tryz.func36, Tryz.ntmps36
  go_wp2_with fail
  refine K1.out.mono ?_
  rintro e w' ⟨rfl, rfl⟩
  cases a with
  | true =>
    go_wp2_with fail
    refine K2.out.mono ?_
    rintro e w' ⟨rfl, rfl⟩
    go_wp2_with fail
    go_ret
    exact ⟨by rw [HBZ.out]; rfl, rfl⟩
  | false =>
    go_wp2_with fail
    refine K3.out.mono ?_
    rintro e w' ⟨rfl, rfl⟩
    go_wp2_with fail
    refine K4.out.mono ?_
    rintro e w' ⟨rfl, rfl⟩
    go_wp2_with fail
    go_ret
    exact ⟨by rw [HBU.out]; rfl, rfl⟩

theorem byte9b {s : ByteArray} {i : Nat} {c : UInt8} (h : s.data.toList[i]? = some c) (hi : i < s.size) : ((s[i]'hi).toNat : Int) = c.toNat := by
  obtain ⟨h1, h2⟩ := List.getElem?_eq_some_iff.1 h
  have : s[i]'hi = c := by rw [← h2]; rfl
  rw [this]
theorem u8_int {c : UInt8} {k : Nat} (hk : k < 256) : c = UInt8.ofNat k ↔ (c.toNat : Int) = k := by
  constructor
  · intro h
    rw [h, UInt8.toNat_ofNat']
    have : k % 2 ^ 8 = k := Nat.mod_eq_of_lt hk
    omega
  · intro h
    apply UInt8.toNat_inj.1
    rw [UInt8.toNat_ofNat']
    have : k % 2 ^ 8 = k := Nat.mod_eq_of_lt hk
    omega
set_option maxRecDepth 100000 in
set_option maxHeartbeats 1000000 in
theorem based_any (l : List UInt8) (hl : l.length ≤ 1000000) (w : World) : Calls Tryz.prog 35 #[.string (ba l)] w fun e w' => e = .returned (.tuple #[.string (ba (l.drop (Ie.start l).1)), .int .i64 ((Ie.start l).2 : Nat)]) ∧ w' = w := by
  have K1 := prefix_any (ba l) ⟨#[48]⟩ w
  rw [ba_list, show (⟨#[48]⟩ : ByteArray).data.toList = [48] from rfl] at K1
  match l, hl with
  | [], _ =>
    have e1 : Lib.hasPrefix [] [48] = false := rfl
    rw [e1] at K1
    have HK := Lib.hid K1
    clear K1 e1
    show Calls Tryz.prog 35 #[.string (ba [])] w fun e w' => e = .returned (.tuple #[.string (ba []), .int .i64 10]) ∧ w' = w
    obtain ⟨b, hb⟩ : ∃ b, b = ba [] := ⟨_, rfl⟩
    rw [← hb] at HK ⊢
    clear hb
    go_enter Tryz.func35, Tryz.ntmps35
    go_wp2_with fail
    refine HK.out.mono ?_
    rintro e w' ⟨rfl, rfl⟩
    go_wp2_with fail
    go_ret2
    exact ⟨rfl, rfl⟩
  | [c], _ =>
    have e1 : Lib.hasPrefix [c] [48] = (48 == c) := by show ((48 == c) && List.isPrefixOf [] []) = _; simp
    rw [e1] at K1
    have hsz : (ba [c]).size = 1 := rfl
    by_cases hc : c = 48
    · have e2 : (48 == c) = true := by rw [hc]; rfl
      have e3 : Ie.start [c] = (0, 8) := if_pos hc
      rw [e2] at K1
      rw [e3, List.drop_zero]
      have HK := Lib.hid K1
      obtain ⟨b, hb⟩ : ∃ b, b = ba [c] := ⟨_, rfl⟩
      rw [← hb] at HK hsz ⊢
      clear hb K1 e1 e2 e3 hc
      go_enter Tryz.func35, Tryz.ntmps35
      go_wp2_with fail
      refine HK.out.mono ?_
      rintro e w' ⟨rfl, rfl⟩
      go_wp2_with fail
      go_ret2
      exact ⟨rfl, rfl⟩
    · have e2 : (48 == c) = false := by simpa using Ne.symm hc
      have e3 : Ie.start [c] = (0, 10) := if_neg hc
      rw [e2] at K1
      rw [e3, List.drop_zero]
      have HK := Lib.hid K1
      obtain ⟨b, hb⟩ : ∃ b, b = ba [c] := ⟨_, rfl⟩
      rw [← hb] at HK hsz ⊢
      clear hb K1 e1 e2 e3 hc
      go_enter Tryz.func35, Tryz.ntmps35
      go_wp2_with fail
      refine HK.out.mono ?_
      rintro e w' ⟨rfl, rfl⟩
      go_wp2_with fail
      go_ret2
      exact ⟨rfl, rfl⟩
  | c :: d :: t, hl =>
    have e1 : Lib.hasPrefix (c :: d :: t) [48] = (48 == c) := by show ((48 == c) && List.isPrefixOf [] _) = _; simp
    rw [e1] at K1
    have hsz : (ba (c :: d :: t)).size = t.length + 2 := rfl
    have g1 : ∀ (b : ByteArray), b = ba (c :: d :: t) → ∀ hi : 1 < b.size, ((b[1]'hi).toNat : Int) = d.toNat := by
      rintro b rfl hi
      exact byte9b rfl hi
    have hex : (ba (c :: d :: t)).extract 2 (t.length + 2) = ba t := by
      apply ByteArray.ext
      apply Array.toList_inj.1
      rw [Lib.extract_data]
      show ((c :: d :: t).drop 2).take (t.length + 2 - 2) = t
      rw [List.drop_succ_cons, List.drop_succ_cons, List.drop_zero, List.take_of_length_le (by omega)]
    simp only [List.length_cons] at hl
    obtain ⟨D, hD⟩ : ∃ D : Int, D = d.toNat := ⟨_, rfl⟩
    rw [← hD] at g1
    have hx : d = 120 ↔ D = 120 := by rw [hD]; exact u8_int (k := 120) (by decide)
    have hX : d = 88 ↔ D = 88 := by rw [hD]; exact u8_int (k := 88) (by decide)
    by_cases hc : c = 48
    · have e2 : (48 == c) = true := by rw [hc]; rfl
      rw [e2] at K1
      by_cases hd : d = 120 ∨ d = 88
      · have e3 : Ie.start (c :: d :: t) = (2, 16) := (if_pos hc).trans (if_pos hd)
        rw [e3]
        show Calls Tryz.prog 35 #[.string (ba (c :: d :: t))] w fun e w' => e = .returned (.tuple #[.string (ba t), .int .i64 16]) ∧ w' = w
        rw [hx, hX] at hd
        have HK := Lib.hid K1
        have HEX := Lib.hid hex
        obtain ⟨n, hn⟩ : ∃ n, n = t.length := ⟨_, rfl⟩
        rw [← hn] at hsz HEX hl
        obtain ⟨b, hb⟩ : ∃ b, b = ba (c :: d :: t) := ⟨_, rfl⟩
        rw [← hb] at HK hsz HEX ⊢
        have hi1 : 1 < b.size := by rw [hsz]; omega
        replace g1 := g1 b hb hi1
        obtain ⟨bt, hbt⟩ : ∃ bt, bt = ba t := ⟨_, rfl⟩
        rw [← hbt] at HEX ⊢
        clear hb hbt hn K1 e1 e2 e3 hc hx hX hD hex
        rcases hd with hd | hd
        all_goals
          go_enter Tryz.func35, Tryz.ntmps35
          go_wp2_with fail
          refine HK.out.mono ?_
          rintro e w' ⟨rfl, rfl⟩
          go_wp2_with fail
          go_ret2
          refine ⟨?_, rfl⟩
          rw [← HEX.out]
          rfl
      · have e3 : Ie.start (c :: d :: t) = (0, 8) := (if_pos hc).trans (if_neg hd)
        rw [e3, List.drop_zero]
        rw [hx, hX] at hd
        have d1 : (D == 120) = false := beq_eq_false_iff_ne.2 fun h => hd (.inl h)
        have d2 : (D == 88) = false := beq_eq_false_iff_ne.2 fun h => hd (.inr h)
        have HK := Lib.hid K1
        obtain ⟨n, hn⟩ : ∃ n, n = t.length := ⟨_, rfl⟩
        rw [← hn] at hsz hl
        obtain ⟨b, hb⟩ : ∃ b, b = ba (c :: d :: t) := ⟨_, rfl⟩
        rw [← hb] at HK hsz ⊢
        have hi1 : 1 < b.size := by rw [hsz]; omega
        replace g1 := g1 b hb hi1
        clear hb hn K1 e1 e2 e3 hc hx hX hD hex hd
        go_enter Tryz.func35, Tryz.ntmps35
        go_wp2_with fail
        refine HK.out.mono ?_
        rintro e w' ⟨rfl, rfl⟩
        go_wp2_with fail
        go_ret2
        exact ⟨rfl, rfl⟩
    · have e2 : (48 == c) = false := by simpa using Ne.symm hc
      have e3 : Ie.start (c :: d :: t) = (0, 10) := if_neg hc
      rw [e2] at K1
      rw [e3, List.drop_zero]
      have HK := Lib.hid K1
      obtain ⟨b, hb⟩ : ∃ b, b = ba (c :: d :: t) := ⟨_, rfl⟩
      rw [← hb] at HK ⊢
      clear hb K1 e1 e2 e3 hc hx hX hD hex g1 hsz
      go_enter Tryz.func35, Tryz.ntmps35
      go_wp2_with fail
      refine HK.out.mono ?_
      rintro e w' ⟨rfl, rfl⟩
      go_wp2_with fail
      go_ret2
      exact ⟨rfl, rfl⟩

theorem puTop_any (b : Nat) (hb : b = 10 ∨ b = 8 ∨ b = 16) (l : List UInt8) (hl : l.length ≤ 1000000) (w : World) : Calls Tryz.prog 67 #[.string (ba l), .int .i64 b, .int .i64 63] w (PuPost w (Ie.puTop b l)) := by
  unfold Ie.puTop
  by_cases h0 : l = []
  · rw [if_pos h0, h0]
    exact pu_empty b w
  · rw [if_neg h0]
    have hne : (ba l).size ≠ 0 := fun h => h0 (List.length_eq_zero_iff.1 (by rw [ba_size] at h; exact h))
    rcases hb with rfl | rfl | rfl
    · exact pu_10 (ba l) hne hl w
    · exact pu_8 (ba l) hne hl w
    · exact pu_16 (ba l) hne hl w
theorem errs_neq (t : TypeId) (p : Value) : ∀ W, (binOp .neq 67 (.iface t p) .nilIface).run Tryz.prog W = .ok (.bool true) W := fun W => by kernel_rfl
set_option maxRecDepth 100000 in
set_option maxHeartbeats 1000000 in
theorem parse_any (b : Nat) (hb : b = 10 ∨ b = 8 ∨ b = 16) (l : List UInt8) (hl : l.length ≤ 1000000) (w : World) (hE : Errs w) :
    Calls Tryz.prog 37 #[.string (ba l), .int .i64 b, .int .i64 63] w fun e w' => (∃ v, e = .returned (.tuple #[.int .u64 (Ie.prV (Ie.puTop b l)), v]) ∧ (match Ie.puTop b l with | .ok _ => v = .nilIface | _ => ∃ t p, v = .iface t p)) ∧ Below w.heap.size w w' := by
  have K1 := Lib.hid (puTop_any b hb l hl w)
  obtain ⟨q, hq⟩ : ∃ q, q = Ie.puTop b l := ⟨_, rfl⟩
  rw [← hq] at K1 ⊢
  have HE := Lib.hid hE
  have hsz : (ba l).size ≤ 1000000 := hl
  obtain ⟨s, hs⟩ : ∃ s, s = ba l := ⟨_, rfl⟩
  rw [← hs] at K1 hsz ⊢
  clear hq hE hs hl hb
  go_enter Tryz.func37, Tryz.ntmps37
  go_wp2_with fail
  refine K1.out.mono ?_
  rintro e w2 ⟨rfl, hB2⟩
  have HB2 := Lib.hid hB2
  have HE2 := Lib.hid (HE.out.later hB2)
  clear hB2
  cases q with
  | ok n =>
    unfold prE
    go_wp2_with fail
    go_ret2
    first | exact ⟨⟨_, rfl, rfl⟩, HB2.out⟩ | exact ⟨rfl, HB2.out⟩
  | syn =>
    unfold prE
    go_wp2_with fail
    refine (toerr_syntax _ _ _ _ _ hsz HE2.out).mono ?_
    rintro e w3 ⟨⟨t, p, rfl⟩, hB3⟩
    go_wp2_with fail
    go_ret2
    refine ⟨⟨.iface t p, rfl, ?_⟩, Below.then HB2.out hB3⟩
    exact ⟨t, p, rfl⟩
  | rng =>
    unfold prE
    go_wp2_with fail
    refine (toerr_range _ _ _ _ _ hsz HE2.out).mono ?_
    rintro e w3 ⟨⟨t, p, rfl⟩, hB3⟩
    go_wp2_with fail
    go_ret2
    refine ⟨⟨.iface t p, rfl, ?_⟩, Below.then HB2.out hB3⟩
    exact ⟨t, p, rfl⟩

set_option maxRecDepth 100000 in
set_option maxHeartbeats 1000000 in
theorem inumber_any : NumC 13 Ie.number := by
  intro s w hG hs
  have hsz : s.size = s.data.toList.length := Lib.size_eq s
  obtain ⟨p, hp⟩ : ∃ p, p = Ie.bare s.data.toList := ⟨_, rfl⟩
  have hlen : p.length ≤ 1000000 := by rw [hp]; have := len_bare s.data.toList; omega
  have K1 := Lib.hid (bare_any s w hs)
  rw [← hp] at K1
  have K2 := Lib.hid (based_any p hlen w)
  have hb := (Ie.start_base p).1
  have K3 := Lib.hid (parse_any (Ie.start p).2 hb (p.drop (Ie.start p).1) (by rw [List.length_drop]; omega) w hG.2)
  have hnum : Ie.number s.data.toList = Ie.prO (Ie.puTop (Ie.start p).2 (p.drop (Ie.start p).1)) := by rw [← Ie.num_eq]; unfold Ie.numP; rw [← hp]
  have hmost : ∀ n, Ie.puTop (Ie.start p).2 (p.drop (Ie.start p).1) = .ok n → n ≤ 9223372036854775807 := fun n h => by
    unfold Ie.puTop at h
    split at h
    · cases h
    · exact (Ie.pu_ok _ _ 0 n (Nat.zero_le _) h).2.2
  rw [hnum]
  obtain ⟨q, hq⟩ : ∃ q, q = Ie.puTop (Ie.start p).2 (p.drop (Ie.start p).1) := ⟨_, rfl⟩
  rw [← hq] at K3 hmost ⊢
  obtain ⟨b, hbb⟩ : ∃ b, b = (Ie.start p).2 := ⟨_, rfl⟩
  obtain ⟨x, hx⟩ : ∃ x, x = ba (p.drop (Ie.start p).1) := ⟨_, rfl⟩
  obtain ⟨y, hy⟩ : ∃ y, y = ba p := ⟨_, rfl⟩
  obtain ⟨pv, hpv⟩ : ∃ pv, pv = Ie.prV q := ⟨_, rfl⟩
  rw [← hpv] at K3
  rw [← hx, ← hbb] at K2 K3
  rw [← hy] at K1 K2
  clear hp hlen hb hnum hq hbb hx hy hsz hG hs
  go_enter Tryz.func13, Tryz.ntmps13
  go_wp2_with fail
  refine K1.out.mono ?_
  rintro e w' ⟨rfl, rfl⟩
  go_wp2_with fail
  refine K2.out.mono ?_
  rintro e w' ⟨rfl, rfl⟩
  go_wp2_with fail
  refine K3.out.mono ?_
  rintro e w2 ⟨⟨v, rfl, hv⟩, hB2⟩
  have HB2 := Lib.hid hB2
  clear hB2
  cases q with
  | ok n =>
    dsimp only at hv
    subst hv
    have hn := hmost n rfl
    have hpv' : pv = (n : Int) := hpv
    subst hpv'
    have hn1 : (n : Int) ≤ 9223372036854775807 := by omega
    have hn0 : (0 : Int) ≤ n := by omega
    clear hmost hn hpv
    go_wp2_with fail
    go_ret2
    exact ⟨rfl, HB2.out⟩
  | syn =>
    dsimp only at hv
    obtain ⟨t, p2, rfl⟩ := hv
    clear hmost hpv
    go_wp2_with fail
    go_ret2
    exact ⟨rfl, HB2.out⟩
  | rng =>
    dsimp only at hv
    obtain ⟨t, p2, rfl⟩ := hv
    clear hmost hpv
    go_wp2_with fail
    go_ret2
    exact ⟨rfl, HB2.out⟩
end Go.Proofs.YtognifnalfjdgaaGreatDoor
