/- What is proved: what comment, blank and first tell of a text. -/
import Derived.Test.YtlkcmegjbdibcaaDoorW2
namespace Go.Proofs.YtlkcmegjbdibcaaDoor
open Go.RowKit Go.Shelf

theorem indexByte_line (l : List UInt8) : (Lib.indexByte l 10 = -1 ∧ Lx.lineLen l = l.length) ∨ Lib.indexByte l 10 = (Lx.lineLen l : Nat) := by
  induction l with
  | nil => exact .inl ⟨rfl, rfl⟩
  | cons c r ih =>
    have e : Lib.indexByte (c :: r) 10 = if c == 10 then 0 else if Lib.indexByte r 10 == -1 then -1 else Lib.indexByte r 10 + 1 := rfl
    by_cases hc : c = 10
    · subst hc
      exact .inr (by rw [e]; simp [Lx.lineLen])
    · have hl : Lx.lineLen (c :: r) = Lx.lineLen r + 1 := by
        unfold Lx.lineLen
        rw [List.takeWhile_cons, if_pos (by simpa using hc)]; simp
      rw [e, if_neg (by simpa using hc), hl]
      rcases ih with ⟨h1, h2⟩ | h
      · exact .inl ⟨by rw [h1]; rfl, by rw [h2]; simp⟩
      · refine .inr ?_
        rw [h, if_neg (by simp)]
        omega
theorem index_clos : ∀ (l : List UInt8), (Lib.index l [42, 47] = -1 ∧ Lx.clos l = none) ∨ ∃ m : Nat, Lib.index l [42, 47] = m ∧ Lx.clos l = some m
  | [] => .inl ⟨rfl, rfl⟩
  | [c] => .inl ⟨by
      have e : Lib.index [c] [42, 47] = if [42, 47].isPrefixOf [c] then 0 else if Lib.index [] [42, 47] == -1 then -1 else Lib.index [] [42, 47] + 1 := rfl
      rw [e, if_neg (by simp [List.isPrefixOf])]; rfl, rfl⟩
  | c :: d :: r => by
    have ih := index_clos (d :: r)
    have e : Lib.index (c :: d :: r) [42, 47] = if [42, 47].isPrefixOf (c :: d :: r) then 0 else if Lib.index (d :: r) [42, 47] == -1 then -1 else Lib.index (d :: r) [42, 47] + 1 := rfl
    have e2 : Lx.clos (c :: d :: r) = if c = 42 ∧ d = 47 then some 0 else (Lx.clos (d :: r)).map (· + 1) := rfl
    have e3 : [42, 47].isPrefixOf (c :: d :: r) = decide (c = 42 ∧ d = 47) := by
      rw [Bool.eq_iff_iff]
      simp only [List.isPrefixOf, Bool.and_true, Bool.and_eq_true, beq_iff_eq, decide_eq_true_iff]
      exact ⟨fun h => ⟨h.1.symm, h.2.symm⟩, fun h => ⟨h.1.symm, h.2.symm⟩⟩
    rw [e, e2, e3]
    by_cases hc : c = 42 ∧ d = 47
    · exact .inr ⟨0, by simp [hc], by simp [hc]⟩
    · rw [if_neg (by simpa using hc), if_neg hc]
      rcases ih with ⟨h1, h2⟩ | ⟨m, h1, h2⟩
      · exact .inl ⟨by rw [h1]; rfl, by rw [h2]; rfl⟩
      · exact .inr ⟨m + 1, by rw [h1, if_neg (by simp)]; rfl, by rw [h2]; rfl⟩

theorem pre2 (a b c d : UInt8) (r : List UInt8) : Lib.hasPrefix (c :: d :: r) [a, b] = decide (c = a ∧ d = b) := by
  show List.isPrefixOf [a, b] (c :: d :: r) = _
  rw [Bool.eq_iff_iff]
  simp only [List.isPrefixOf, Bool.and_true, Bool.and_eq_true, beq_iff_eq, decide_eq_true_iff]
  exact ⟨fun h => ⟨h.1.symm, h.2.symm⟩, fun h => ⟨h.1.symm, h.2.symm⟩⟩
theorem pre1 (a b c : UInt8) : Lib.hasPrefix [c] [a, b] = false := by simp [Lib.hasPrefix, List.isPrefixOf]

/-- What a comment's length comes to, by what the library tells. -/
theorem comment_cases (l : List UInt8) :
    (Lib.hasPrefix l [47, 47] = true ∧ 2 ≤ l.length ∧ ((Lib.indexByte l 10 = -1 ∧ Lx.commentLen l = l.length) ∨ Lib.indexByte l 10 = (Lx.commentLen l : Nat))) ∨
    (Lib.hasPrefix l [47, 47] = false ∧ Lib.hasPrefix l [47, 42] = true ∧ 2 ≤ l.length ∧ ((Lib.index (l.drop 2) [42, 47] = -1 ∧ Lx.commentLen l = 0) ∨ ∃ m : Nat, Lib.index (l.drop 2) [42, 47] = m ∧ Lx.commentLen l = m + 4 ∧ m + 4 ≤ l.length)) ∨
    (Lib.hasPrefix l [47, 47] = false ∧ Lib.hasPrefix l [47, 42] = false ∧ Lx.commentLen l = 0) := by
  match l with
  | [] => exact .inr (.inr ⟨rfl, rfl, rfl⟩)
  | [c] => exact .inr (.inr ⟨pre1 _ _ _, pre1 _ _ _, rfl⟩)
  | c :: d :: r =>
    rw [pre2, pre2, Lx.commentLen_cons]
    by_cases h1 : c = 47 ∧ d = 47
    · refine .inl ⟨by simp [h1], by simp, ?_⟩
      rw [if_pos h1]
      exact indexByte_line _
    · by_cases h2 : c = 47 ∧ d = 42
      · refine .inr (.inl ⟨by simpa using h1, by simp [h2], by simp, ?_⟩)
        rw [if_neg h1, if_pos h2, List.drop_succ_cons, List.drop_succ_cons, List.drop_zero]
        rcases index_clos r with ⟨h3, h4⟩ | ⟨m, h3, h4⟩
        · exact .inl ⟨h3, by rw [h4]; rfl⟩
        · have := Lx.clos_le r m h4
          exact .inr ⟨m, h3, by rw [h4]; simp [Lx.upto]; omega, by simp; omega⟩
      · exact .inr (.inr ⟨by simpa using h1, by simpa using h2, by rw [if_neg h1, if_neg h2]⟩)

set_option maxHeartbeats 1000000 in
theorem comment_any (s : ByteArray) (hs : s.size ≤ 4000000000) (w : World) (hG : Glob w) : Calls Tryd.prog 38 #[.string s] w fun e w' => e = .returned (.int .i64 (Lx.commentLen s.data.toList)) ∧ w = w' := by
  have hcs := comment_cases s.data.toList
  have hle := Lx.commentLen_le s.data.toList
  rw [size_list] at hcs hle
  obtain ⟨R, hR⟩ : ∃ R, R = Lx.commentLen s.data.toList := ⟨_, rfl⟩
  rw [← hR] at hcs hle ⊢
  clear hR
  have HG := Lib.hid hG
  clear hG
  rcases hcs with ⟨h1, h2, h3⟩ | ⟨h1, h2, h3, h4⟩ | ⟨h1, h2, h3⟩
  · have H1 := Lib.hid h1
    rcases h3 with ⟨h3, h4⟩ | h3
    · have H3 := Lib.hid h3
      subst h4
      clear h1 h3
      go_enter Tryd.func38, Tryd.ntmps38
      go_wp2_with fail
      refine (prefix_any s ⟨#[47, 47]⟩ _).mono ?_
      rintro e w' ⟨rfl, rfl⟩
      rw [show (⟨#[47, 47]⟩ : ByteArray).data.toList = [47, 47] from rfl, H1.out]
      go_wp2_with fail
      refine (indexbyte_any s _).mono ?_
      rintro e w' ⟨rfl, rfl⟩
      rw [H3.out]
      go_wp2_with fail
      go_ret
      exact ⟨rfl, rfl⟩
    · have H3 := Lib.hid h3
      clear h1 h3
      go_enter Tryd.func38, Tryd.ntmps38
      go_wp2_with fail
      refine (prefix_any s ⟨#[47, 47]⟩ _).mono ?_
      rintro e w' ⟨rfl, rfl⟩
      rw [show (⟨#[47, 47]⟩ : ByteArray).data.toList = [47, 47] from rfl, H1.out]
      go_wp2_with fail
      refine (indexbyte_any s _).mono ?_
      rintro e w' ⟨rfl, rfl⟩
      rw [H3.out]
      go_wp2_with fail
      go_ret
      exact ⟨rfl, rfl⟩
  · have H1 := Lib.hid h1
    have H2 := Lib.hid h2
    have z2 : 2 ≤ s.size := h3
    rcases h4 with ⟨h4, h5⟩ | ⟨m, h4, h5, h6⟩
    · have H4 := Lib.hid h4
      subst h5
      clear h1 h2 h4
      go_enter Tryd.func38, Tryd.ntmps38
      go_wp2_with fail
      refine (prefix_any s ⟨#[47, 47]⟩ _).mono ?_
      rintro e w' ⟨rfl, rfl⟩
      rw [show (⟨#[47, 47]⟩ : ByteArray).data.toList = [47, 47] from rfl, H1.out]
      go_wp2_with fail
      refine (prefix_any s ⟨#[47, 42]⟩ _).mono ?_
      rintro e w' ⟨rfl, rfl⟩
      rw [show (⟨#[47, 42]⟩ : ByteArray).data.toList = [47, 42] from rfl, H2.out]
      go_wp2_with fail
      refine (index_any _ _ HG.out (by simp; omega)).mono ?_
      rintro e w' ⟨rfl, rfl⟩
      rw [Lib.extract_to_end, H4.out]
      go_wp2_with fail
      go_ret
      exact ⟨rfl, rfl⟩
    · have H4 := Lib.hid h4
      have H5 := Lib.hid h5
      clear h1 h2 h4 h5
      go_enter Tryd.func38, Tryd.ntmps38
      go_wp2_with fail
      refine (prefix_any s ⟨#[47, 47]⟩ _).mono ?_
      rintro e w' ⟨rfl, rfl⟩
      rw [show (⟨#[47, 47]⟩ : ByteArray).data.toList = [47, 47] from rfl, H1.out]
      go_wp2_with fail
      refine (prefix_any s ⟨#[47, 42]⟩ _).mono ?_
      rintro e w' ⟨rfl, rfl⟩
      rw [show (⟨#[47, 42]⟩ : ByteArray).data.toList = [47, 42] from rfl, H2.out]
      go_wp2_with fail
      refine (index_any _ _ HG.out (by simp; omega)).mono ?_
      rintro e w' ⟨rfl, rfl⟩
      rw [Lib.extract_to_end, H4.out]
      go_wp2_with fail
      go_ret
      exact ⟨ret_int (by rw [H5.out]; omega), rfl⟩
  · have H1 := Lib.hid h1
    have H2 := Lib.hid h2
    subst h3
    clear h1 h2
    go_enter Tryd.func38, Tryd.ntmps38
    go_wp2_with fail
    refine (prefix_any s ⟨#[47, 47]⟩ _).mono ?_
    rintro e w' ⟨rfl, rfl⟩
    rw [show (⟨#[47, 47]⟩ : ByteArray).data.toList = [47, 47] from rfl, H1.out]
    go_wp2_with fail
    refine (prefix_any s ⟨#[47, 42]⟩ _).mono ?_
    rintro e w' ⟨rfl, rfl⟩
    rw [show (⟨#[47, 42]⟩ : ByteArray).data.toList = [47, 42] from rfl, H2.out]
    go_wp2_with fail
    go_ret
    exact ⟨rfl, rfl⟩

theorem isBl_int (c : UInt8) : Lx.isBl c = (((c.toNat : Int) == 32) || ((c.toNat : Int) == 9) || ((c.toNat : Int) == 11) || ((c.toNat : Int) == 12) || ((c.toNat : Int) == 13)) := by
  unfold Lx.isBl
  simp only [u8_beq]
  rfl

set_option maxHeartbeats 1000000 in
theorem blank_any (s : ByteArray) (hs : s.size ≤ 4000000000) (h0 : 0 < s.size) (w : World) (hG : Glob w) : Calls Tryd.prog 30 #[.string s] w fun e w' => e = .returned (.int .i64 (Lx.blankLen s.data.toList)) ∧ w = w' := by
  have hd0 := drop_at s 0 h0
  rw [List.drop_zero] at hd0
  have hbl : Lx.blankLen s.data.toList = if Lx.isBl s[0] then 1 else Lx.commentLen s.data.toList := by
    conv => lhs; rw [hd0]
    rw [Lx.blankLen_cons, ← hd0]
  obtain ⟨R, hR⟩ : ∃ R, R = Lx.blankLen s.data.toList := ⟨_, rfl⟩
  rw [← hR] at hbl ⊢
  clear hR hd0
  have HG := Lib.hid hG
  clear hG
  have hi := isBl_int s[0]
  cases hB : Lx.isBl s[0] with
  | true =>
    rw [hB] at hi hbl
    rw [if_pos rfl] at hbl
    subst hbl
    have hcase : ((s[0].toNat : Int) == 32) = true ∨ (((s[0].toNat : Int) == 32) = false ∧ ((s[0].toNat : Int) == 9) = true) ∨ (((s[0].toNat : Int) == 32) = false ∧ ((s[0].toNat : Int) == 9) = false ∧ ((s[0].toNat : Int) == 11) = true) ∨
        (((s[0].toNat : Int) == 32) = false ∧ ((s[0].toNat : Int) == 9) = false ∧ ((s[0].toNat : Int) == 11) = false ∧ ((s[0].toNat : Int) == 12) = true) ∨
        (((s[0].toNat : Int) == 32) = false ∧ ((s[0].toNat : Int) == 9) = false ∧ ((s[0].toNat : Int) == 11) = false ∧ ((s[0].toNat : Int) == 12) = false ∧ ((s[0].toNat : Int) == 13) = true) := by
      revert hi
      cases ((s[0].toNat : Int) == 32) <;> cases ((s[0].toNat : Int) == 9) <;> cases ((s[0].toNat : Int) == 11) <;> cases ((s[0].toNat : Int) == 12) <;> cases ((s[0].toNat : Int) == 13) <;> simp
    clear hi hB
    rcases hcase with h1 | ⟨h1, h2⟩ | ⟨h1, h2, h3⟩ | ⟨h1, h2, h3, h4⟩ | ⟨h1, h2, h3, h4, h5⟩
    all_goals
      go_enter Tryd.func30, Tryd.ntmps30
      go_wp2_with fail
      go_ret
      exact ⟨rfl, rfl⟩
  | false =>
    rw [hB] at hi hbl
    rw [if_neg (by simp)] at hbl
    have hall : ((s[0].toNat : Int) == 32) = false ∧ ((s[0].toNat : Int) == 9) = false ∧ ((s[0].toNat : Int) == 11) = false ∧ ((s[0].toNat : Int) == 12) = false ∧ ((s[0].toNat : Int) == 13) = false := by
      revert hi
      cases ((s[0].toNat : Int) == 32) <;> cases ((s[0].toNat : Int) == 9) <;> cases ((s[0].toNat : Int) == 11) <;> cases ((s[0].toNat : Int) == 12) <;> cases ((s[0].toNat : Int) == 13) <;> simp
    obtain ⟨h1, h2, h3, h4, h5⟩ := hall
    have HR := Lib.hid hbl
    clear hi hB hbl
    go_enter Tryd.func30, Tryd.ntmps30
    go_wp2_with fail
    refine (comment_any s hs _ HG.out).mono ?_
    rintro e w' ⟨rfl, rfl⟩
    rw [← HR.out]
    go_wp2_with fail
    go_ret
    exact ⟨rfl, rfl⟩
end Go.Proofs.YtlkcmegjbdibcaaDoor
