/- What is proved: what the document's own is, blank, word, number, quoted, sign and next tell of a text at a place. -/
import Derived.Test.YtlkcmegjbdibcaaDoorW5
namespace Go.Proofs.YtlkcmegjbdibcaaDoor
open Go.RowKit Go.Shelf

theorem ba_beq (a b : ByteArray) : (a.toList == b.toList) = decide (a = b) := by
  rw [Bool.eq_iff_iff, beq_iff_eq, decide_eq_true_iff, Lib.toList_data, Lib.toList_data]
  constructor
  · intro e
    apply ByteArray.ext
    exact Array.toList_inj.1 e
  · intro e; rw [e]
theorem is_pre (s p : ByteArray) (i : Nat) : p.data.toList.isPrefixOf (s.data.toList.drop i) = decide (s.extract i (i + p.size) = p) := by
  rw [Bool.eq_iff_iff, List.isPrefixOf_iff_prefix, List.prefix_iff_eq_take, decide_eq_true_iff, extract_list, size_list, show i + p.size - i = p.size by omega]
  constructor
  · intro e
    apply ByteArray.ext
    apply Array.toList_inj.1
    rw [← e]
  · intro e
    exact (congrArg (fun b : ByteArray => b.data.toList) e).symm
theorem is_short (s p : ByteArray) (i : Nat) (h : ¬ i + p.size ≤ s.size) (hp : 0 < p.size) : p.data.toList.isPrefixOf (s.data.toList.drop i) = false := by
  refine pre_no _ _ ?_
  rw [List.length_drop, size_list, size_list]; omega

set_option maxHeartbeats 1000000 in
theorem is_any (s p : ByteArray) (i : Nat) (hs : s.size ≤ 4000000000) (hi : i ≤ s.size) (hp : p.size ≤ 100) (hp0 : 0 < p.size) (w : World) :
    Calls Tryd.prog 60 #[.string s, .int .i64 i, .string p] w fun e w' => e = .returned (.bool (p.data.toList.isPrefixOf (s.data.toList.drop i))) ∧ w = w' := by
  by_cases h : i + p.size ≤ s.size
  · have hx := is_pre s p i
    obtain ⟨b, hb⟩ : ∃ b, b = p.data.toList.isPrefixOf (s.data.toList.drop i) := ⟨_, rfl⟩
    rw [← hb] at hx ⊢
    have HL := Lib.hid hx
    clear hx hb
    go_enter Tryd.func60, Tryd.ntmps60
    go_wp2_with fail
    go_ret
    exact ⟨ret_bool (by rw [HL.out, ba_beq]), rfl⟩
  · have hx := is_short s p i h hp0
    have HL := Lib.hid hx
    clear hx
    go_enter Tryd.func60, Tryd.ntmps60
    go_wp2_with fail
    go_ret
    exact ⟨ret_bool HL.out.symm, rfl⟩

theorem isBl_range (c : UInt8) : Lx.isBl c = (((c.toNat : Int) == 32) || ((c.toNat : Int) == 9) || (decide (11 ≤ (c.toNat : Int)) && decide ((c.toNat : Int) ≤ 13))) := by
  rw [isBl_int, Bool.eq_iff_iff]
  simp
  omega
/-- Where what begins at k ends; i, if it is not closed. -/
def cend (i k : Nat) : Option Nat → Nat
  | none => i
  | some m => k + m + 2
theorem clos_hit (l : List UInt8) (h : [42, 47].isPrefixOf l = true) : Lx.clos l = some 0 := by
  match l, h with
  | c :: d :: r, h =>
    have e : Lx.clos (c :: d :: r) = if c = 42 ∧ d = 47 then some 0 else (Lx.clos (d :: r)).map (· + 1) := rfl
    simp only [List.isPrefixOf, Bool.and_true, Bool.and_eq_true, beq_iff_eq] at h
    rw [e, if_pos ⟨h.1.symm, h.2.symm⟩]
  | [c], h => simp [List.isPrefixOf] at h
  | [], h => simp [List.isPrefixOf] at h
theorem clos_on (c : UInt8) (r : List UInt8) (h : [42, 47].isPrefixOf (c :: r) = false) : Lx.clos (c :: r) = (Lx.clos r).map (· + 1) := by
  match r, h with
  | [], _ => rfl
  | d :: r, h =>
    have e : Lx.clos (c :: d :: r) = if c = 42 ∧ d = 47 then some 0 else (Lx.clos (d :: r)).map (· + 1) := rfl
    rw [e, if_neg]
    rintro ⟨rfl, rfl⟩
    simp [List.isPrefixOf] at h
theorem cend_map (i k : Nat) (o : Option Nat) : cend i k (o.map (· + 1)) = cend i (k + 1) o := by
  cases o with
  | none => rfl
  | some m => simp [cend]; omega
theorem pre_two (a b : UInt8) (l : List UInt8) (h : [a, b].isPrefixOf l = true) : ∃ r, l = a :: b :: r := by
  obtain ⟨r, e⟩ := List.isPrefixOf_iff_prefix.1 h
  exact ⟨r, e.symm⟩
theorem comment_line (l : List UInt8) (h : [47, 47].isPrefixOf l = true) : Lx.commentLen l = Lx.lineLen l := by
  obtain ⟨r, rfl⟩ := pre_two _ _ _ h
  rw [Lx.commentLen_cons, if_pos ⟨rfl, rfl⟩]
theorem comment_block (l : List UInt8) (h : [47, 42].isPrefixOf l = true) (i : Nat) : 2 ≤ l.length ∧ i + Lx.commentLen l = cend i (i + 2) (Lx.clos (l.drop 2)) := by
  obtain ⟨r, rfl⟩ := pre_two _ _ _ h
  refine ⟨by simp, ?_⟩
  rw [Lx.commentLen_cons, if_neg (by decide), if_pos ⟨rfl, rfl⟩, List.drop_succ_cons, List.drop_succ_cons, List.drop_zero]
  cases Lx.clos r with
  | none => rfl
  | some m => simp [Lx.upto, cend]; omega
theorem comment_no (l : List UInt8) (h1 : [47, 47].isPrefixOf l = false) (h2 : [47, 42].isPrefixOf l = false) : Lx.commentLen l = 0 := by
  match l, h1, h2 with
  | [], _, _ => rfl
  | [c], _, _ => rfl
  | c :: d :: r, h1, h2 =>
    rw [Lx.commentLen_cons, if_neg, if_neg]
    · rintro ⟨rfl, rfl⟩; simp [List.isPrefixOf] at h2
    · rintro ⟨rfl, rfl⟩; simp [List.isPrefixOf] at h1
theorem line_yes (c : UInt8) (r : List UInt8) (h : c ≠ 10) : Lx.lineLen (c :: r) = 1 + Lx.lineLen r := by
  unfold Lx.lineLen
  rw [List.takeWhile_cons, if_pos (by simpa using h)]; simp; omega
theorem line_no (r : List UInt8) : Lx.lineLen (10 :: r) = 0 := by
  unfold Lx.lineLen
  rw [List.takeWhile_cons, if_neg (by simp)]; rfl

set_option maxHeartbeats 2000000 in
set_option maxRecDepth 100000 in
theorem rblank_any (s : ByteArray) (i : Nat) (hs : s.size ≤ 4000000000) (hi : i < s.size) (w : World) :
    Calls Tryd.prog 48 #[.string s, .int .i64 i] w fun e w' => e = .returned (.int .i64 ((i + Lx.blankLen (s.data.toList.drop i) : Nat) : Int)) ∧ w = w' := by
  have hd := drop_at s i hi
  have hbl : Lx.blankLen (s.data.toList.drop i) = if Lx.isBl s[i] then 1 else Lx.commentLen (s.data.toList.drop i) := by
    conv => lhs; rw [hd]
    rw [Lx.blankLen_cons, ← hd]
  obtain ⟨R, hR⟩ : ∃ R, R = i + Lx.blankLen (s.data.toList.drop i) := ⟨_, rfl⟩
  rw [← hR]
  rw [hbl] at hR
  clear hbl
  have hi2 := isBl_range s[i]
  cases hB : Lx.isBl s[i] with
  | true =>
    rw [hB] at hi2 hR
    rw [if_pos rfl] at hR
    subst hR
    have hcase : ((s[i].toNat : Int) == 32) = true ∨ (((s[i].toNat : Int) == 32) = false ∧ ((s[i].toNat : Int) == 9) = true) ∨ (((s[i].toNat : Int) == 32) = false ∧ ((s[i].toNat : Int) == 9) = false ∧ 11 ≤ (s[i].toNat : Int) ∧ (s[i].toNat : Int) ≤ 13) := by
      cases h1 : ((s[i].toNat : Int) == 32) with
      | true => exact .inl rfl
      | false =>
        cases h2 : ((s[i].toNat : Int) == 9) with
        | true => exact .inr (.inl ⟨rfl, rfl⟩)
        | false =>
          rw [h1, h2] at hi2
          simp at hi2
          exact .inr (.inr ⟨rfl, rfl, by omega, by omega⟩)
    clear hi2 hB hd
    rcases hcase with h1 | ⟨h1, h2⟩ | ⟨h1, h2, h3, h4⟩
    all_goals
      go_enter Tryd.func48, Tryd.ntmps48
      go_wp2_with fail
      go_ret
      exact ⟨ret_int (by omega), rfl⟩
  | false =>
    rw [hB] at hi2 hR
    rw [if_neg (by simp)] at hR
    have h1 : ((s[i].toNat : Int) == 32) = false := by cases h : ((s[i].toNat : Int) == 32) with | false => rfl | true => rw [h] at hi2; simp at hi2
    have h2 : ((s[i].toNat : Int) == 9) = false := by cases h : ((s[i].toNat : Int) == 9) with | false => rfl | true => rw [h] at hi2; simp at hi2
    have h3 : (s[i].toNat : Int) < 11 ∨ (11 ≤ (s[i].toNat : Int) ∧ 13 < (s[i].toNat : Int)) := by
      rw [h1, h2] at hi2
      simp at hi2
      omega
    have HR := Lib.hid hR
    clear hi2 hB hd hR
    cases hL : [47, 47].isPrefixOf (s.data.toList.drop i) with
    | true =>
      have hR2 : R = i + Lx.lineLen (s.data.toList.drop i) := by rw [HR.out, comment_line _ hL]
      have HL := Lib.hid hL
      have HR2 := Lib.hid hR2
      clear hL hR2
      rcases h3 with h3 | ⟨h3, h4⟩
      all_goals
        go_enter Tryd.func48, Tryd.ntmps48
        go_wp2_with fail
        refine (is_any s ⟨#[47, 47]⟩ i hs (by omega) (by decide) (by decide) _).mono ?_
        rintro e w' ⟨rfl, rfl⟩
        rw [show (⟨#[47, 47]⟩ : ByteArray).data.toList = [47, 47] from rfl, HL.out]
        go_wp2_with fail
        go_loop [1] (fun x => ∃ k : Nat, x = .int .i64 k ∧ k ≤ s.size ∧ R = k + Lx.lineLen (s.data.toList.drop k)) (fun x => s.size - (intOf x).toNat)
        case atStart => exact ⟨i, rfl, by omega, HR2.out⟩
        case round =>
          obtain ⟨k, rfl, hk, he⟩ := hrel
          have HE := Lib.hid he
          clear he
          by_cases hlt : k < s.size
          · have hd := Lib.hid (drop_at s k hlt)
            by_cases hnl : s[k] = 10
            · have t1 : ((s[k].toNat : Int) == 10) = true := u8_eq hnl
              have t2 : ((s[k].toNat : Int) != 10) = false := by simp [bne, t1]
              have HN := Lib.hid hnl
              clear hnl
              go_wp2_with fail
              go_ret
              exact ⟨ret_int (by rw [HE.out, hd.out, HN.out, line_no]; simp), rfl⟩
            · have t1 : ((s[k].toNat : Int) == 10) = false := u8_ne hnl
              have t2 : ((s[k].toNat : Int) != 10) = true := by simp [bne, t1]
              have HN := Lib.hid hnl
              clear hnl
              go_wp2_with fail
              go_round
              case rel => exact ⟨k + 1, by go_num, by omega, by rw [HE.out, hd.out, line_yes _ _ HN.out]; omega⟩
              case measure => simp [intOf]; omega
          · go_wp2_with fail
            go_ret
            exact ⟨ret_int (by rw [HE.out, drop_end s k (by omega)]; simp [Lx.lineLen]), rfl⟩
    | false =>
      cases hK : [47, 42].isPrefixOf (s.data.toList.drop i) with
      | true =>
        obtain ⟨h2l, hce⟩ := comment_block _ hK i
        rw [← HR.out, List.drop_drop] at hce
        rw [List.length_drop, size_list] at h2l
        have HL := Lib.hid hL
        have HK := Lib.hid hK
        have HC := Lib.hid hce
        clear hL hK hce
        rcases h3 with h3 | ⟨h3, h4⟩
        all_goals
          go_enter Tryd.func48, Tryd.ntmps48
          go_wp2_with fail
          refine (is_any s ⟨#[47, 47]⟩ i hs (by omega) (by decide) (by decide) _).mono ?_
          rintro e w' ⟨rfl, rfl⟩
          rw [show (⟨#[47, 47]⟩ : ByteArray).data.toList = [47, 47] from rfl, HL.out]
          go_wp2_with fail
          refine (is_any s ⟨#[47, 42]⟩ i hs (by omega) (by decide) (by decide) _).mono ?_
          rintro e w' ⟨rfl, rfl⟩
          rw [show (⟨#[47, 42]⟩ : ByteArray).data.toList = [47, 42] from rfl, HK.out]
          go_wp2_with fail
          go_loop [7] (fun x => ∃ k : Nat, x = .int .i64 k ∧ i + 2 ≤ k ∧ k ≤ s.size ∧ R = cend i k (Lx.clos (s.data.toList.drop k))) (fun x => s.size - (intOf x).toNat)
          case atStart => exact ⟨i + 2, by go_num, Nat.le_refl _, by omega, HC.out⟩
          case round =>
            obtain ⟨k, rfl, hk2, hk, he⟩ := hrel
            have HE := Lib.hid he
            clear he
            by_cases hlt : k < s.size
            · have hd := Lib.hid (drop_at s k hlt)
              cases hQ : [42, 47].isPrefixOf (s.data.toList.drop k) with
              | true =>
                have HQ := Lib.hid hQ
                clear hQ
                go_wp2_with fail
                refine (is_any s ⟨#[42, 47]⟩ k hs (by omega) (by decide) (by decide) _).mono ?_
                rintro e w' ⟨rfl, rfl⟩
                rw [show (⟨#[42, 47]⟩ : ByteArray).data.toList = [42, 47] from rfl, HQ.out]
                go_wp2_with fail
                go_ret
                exact ⟨ret_int (by rw [HE.out, clos_hit _ HQ.out]; simp [cend]), rfl⟩
              | false =>
                have hQ' := hQ
                rw [hd.out] at hQ'
                have HQ := Lib.hid hQ
                have HQ' := Lib.hid hQ'
                clear hQ hQ'
                go_wp2_with fail
                refine (is_any s ⟨#[42, 47]⟩ k hs (by omega) (by decide) (by decide) _).mono ?_
                rintro e w' ⟨rfl, rfl⟩
                rw [show (⟨#[42, 47]⟩ : ByteArray).data.toList = [42, 47] from rfl, HQ.out]
                go_wp2_with fail
                go_round
                case rel => exact ⟨k + 1, by go_num, by omega, by omega, by rw [HE.out, hd.out, clos_on _ _ HQ'.out, cend_map]⟩
                case measure => simp [intOf]; omega
            · go_wp2_with fail
              go_ret
              exact ⟨ret_int (by rw [HE.out, drop_end s k (by omega)]; rfl), rfl⟩
      | false =>
        have hR2 : R = i := by rw [HR.out, comment_no _ hL hK]; rfl
        have HL := Lib.hid hL
        have HK := Lib.hid hK
        subst hR2
        clear hL hK
        rcases h3 with h3 | ⟨h3, h4⟩
        all_goals
          go_enter Tryd.func48, Tryd.ntmps48
          go_wp2_with fail
          refine (is_any s ⟨#[47, 47]⟩ _ hs (by omega) (by decide) (by decide) _).mono ?_
          rintro e w' ⟨rfl, rfl⟩
          rw [show (⟨#[47, 47]⟩ : ByteArray).data.toList = [47, 47] from rfl, HL.out]
          go_wp2_with fail
          refine (is_any s ⟨#[47, 42]⟩ _ hs (by omega) (by decide) (by decide) _).mono ?_
          rintro e w' ⟨rfl, rfl⟩
          rw [show (⟨#[47, 42]⟩ : ByteArray).data.toList = [47, 42] from rfl, HK.out]
          go_wp2_with fail
          go_ret
          exact ⟨rfl, rfl⟩

/-- How long the name is with which a text begins, 0 if it begins with none. -/
def rword : List UInt8 → Nat
  | [] => 0
  | c :: r => if Lx.letter c then Lx.wordLen (c :: r) else 0
theorem rword_cons (c : UInt8) (r : List UInt8) : rword (c :: r) = if Lx.letter c then Lx.wordLen (c :: r) else 0 := rfl

set_option maxHeartbeats 2000000 in
theorem word_any (s : ByteArray) (i : Nat) (hs : s.size ≤ 4000000000) (hi : i < s.size) (w : World) :
    Calls Tryd.prog 61 #[.string s, .int .i64 i] w fun e w' => e = .returned (.int .i64 (rword (s.data.toList.drop i))) ∧ w = w' := by
  have hd := drop_at s i hi
  obtain ⟨R, hR⟩ : ∃ R, R = rword (s.data.toList.drop i) := ⟨_, rfl⟩
  rw [← hR]
  cases hL : Lx.letter s[i] with
  | true =>
    have hR2 : R = Lx.wordLen (s.data.toList.drop i) := by rw [hR, hd, rword_cons, if_pos hL]
    have HR := Lib.hid hR2
    have HL := Lib.hid hL
    clear hR hR2 hd hL
    go_enter Tryd.func61, Tryd.ntmps61
    go_wp2_with fail
    go_loop [5] (fun n => ∃ k : Nat, n = .int .i64 k ∧ i + k ≤ s.size ∧ R = k + Lx.wordLen (s.data.toList.drop (i + k))) (fun n => s.size - (intOf n).toNat)
    case atStart => exact ⟨0, rfl, by omega, by rw [HR.out]; simp⟩
    case round =>
      obtain ⟨k, rfl, hk, he⟩ := hrel
      have HE := Lib.hid he
      clear he
      by_cases hlt : i + k < s.size
      · have hd := Lib.hid (drop_at s (i + k) hlt)
        cases hL2 : Lx.letter s[i + k] with
        | true =>
          go_wp2_with (go_at_call 72; refine (rletter_any _ _).mono ?_; rintro e w' ⟨rfl, rfl⟩)
          go_round
          case rel => exact ⟨k + 1, by go_num, by omega, by rw [HE.out, hd.out, word_yes _ _ (by simp [Lx.alnum, hL2])]; rw [show i + (k + 1) = i + k + 1 by omega]; omega⟩
          case measure => simp [intOf]; omega
        | false =>
          have hk0 : 0 < k := by
            rcases Nat.eq_zero_or_pos k with h | h
            · exfalso
              subst h
              have := HL.out
              simp only [Nat.add_zero] at hL2
              rw [this] at hL2; cases hL2
            · exact h
          cases hD : Lx.digit s[i + k] with
          | true =>
            go_wp2_with (first | (go_at_call 72; refine (rletter_any _ _).mono ?_; rintro e w' ⟨rfl, rfl⟩) | (go_at_call 73; refine (rdigit_any _ _).mono ?_; rintro e w' ⟨rfl, rfl⟩))
            go_round
            case rel => exact ⟨k + 1, by go_num, by omega, by rw [HE.out, hd.out, word_yes _ _ (by simp [Lx.alnum, hD])]; rw [show i + (k + 1) = i + k + 1 by omega]; omega⟩
            case measure => simp [intOf]; omega
          | false =>
            go_wp2_with (first | (go_at_call 72; refine (rletter_any _ _).mono ?_; rintro e w' ⟨rfl, rfl⟩) | (go_at_call 73; refine (rdigit_any _ _).mono ?_; rintro e w' ⟨rfl, rfl⟩))
            go_ret
            refine ⟨ret_int ?_, rfl⟩
            rw [HE.out, hd.out, word_no _ _ (by simp [Lx.alnum, hL2, hD])]; simp
      · go_wp2_with fail
        go_ret
        refine ⟨ret_int ?_, rfl⟩
        rw [HE.out, drop_end s (i + k) (by omega)]; simp [Lx.wordLen]
  | false =>
    have hR2 : R = 0 := by rw [hR, hd, rword_cons, if_neg (by rw [hL]; simp)]
    subst hR2
    clear hR hd
    go_enter Tryd.func61, Tryd.ntmps61
    go_wp2_with fail
    go_loop [5] (fun n => n = .int .i64 0) (fun n => 0)
    case atStart => exact rfl
    case round =>
      obtain rfl := hrel
      go_wp2_with (go_at_call 72; refine (rletter_any _ _).mono ?_; rintro e w' ⟨rfl, rfl⟩)
      go_ret
      exact ⟨rfl, rfl⟩
end Go.Proofs.YtlkcmegjbdibcaaDoor
