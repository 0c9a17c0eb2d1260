/- What is proved: plain facts on the tokens of an include's line: what stands between quotes, or signs, is told as it stands. -/
import Derived.Test.YtnkheejpmkflaaaDoorDw
namespace Go.Proofs.YtnkheejpmkflaaaDoor.Dx
open Go.Lib
open Lx (tb)

/-- The bytes of a name. -/
def nameB (c : UInt8) : Bool := Lx.alnum c && c != 95 || c == 46 || c == 45 || c == 47
/-- A name that no comment begins in. -/
def nameOk : List UInt8 → Bool
  | [] => true
  | [c] => nameB c
  | c :: d :: r => nameB c && !(c == 47 && d == 47) && nameOk (d :: r)
theorem nameOk_cons (c : UInt8) (r : List UInt8) (h : nameOk (c :: r) = true) : nameB c = true ∧ nameOk r = true := by
  cases r with
  | nil => exact ⟨h, rfl⟩
  | cons d r =>
    simp only [nameOk, Bool.and_eq_true] at h
    exact ⟨h.1.1, h.2⟩
theorem nameOk_drop : ∀ (n : Nat) (l : List UInt8), nameOk l = true → nameOk (l.drop n) = true
  | 0, _, h => h
  | _ + 1, [], h => h
  | n + 1, c :: r, h => nameOk_drop n r (nameOk_cons c r h).2
theorem nameOk_all : ∀ (l : List UInt8), nameOk l = true → ∀ c ∈ l, nameB c = true
  | [], _ => fun c hc => by simp at hc
  | c :: r, h => fun d hd => by
    rcases List.mem_cons.1 hd with rfl | hd
    · exact (nameOk_cons d r h).1
    · exact nameOk_all r (nameOk_cons c r h).2 d hd

theorem u8_all (P : UInt8 → Bool) (h : ((List.range 256).all fun n => P (UInt8.ofNat n)) = true) (c : UInt8) : P c = true := by
  have := List.all_eq_true.1 h c.toNat (List.mem_range.2 c.toNat_lt)
  simpa using this
theorem nameB_cases (c : UInt8) (h : nameB c = true) : Lx.isBl c = false ∧ c ≠ 10 ∧ c ≠ 34 ∧ c ≠ 92 ∧ c ≠ 62 ∧ c ≠ 42 ∧ c ≠ 39 ∧ c ≠ 61 ∧ (Lx.letter c = true ∨ Lx.digit c = true ∨ c = 46 ∨ c = 45 ∨ c = 47) := by
  have := u8_all (fun c => !nameB c || decide (Lx.isBl c = false ∧ c ≠ 10 ∧ c ≠ 34 ∧ c ≠ 92 ∧ c ≠ 62 ∧ c ≠ 42 ∧ c ≠ 39 ∧ c ≠ 61 ∧ (Lx.letter c = true ∨ Lx.digit c = true ∨ c = 46 ∨ c = 45 ∨ c = 47))) (by decide +kernel) c
  rw [h] at this
  simpa using this

/-- No blank begins where a name goes on, and no comment. -/
theorem name_blank (c : UInt8) (r y : List UInt8) (h : nameOk (c :: r) = true) (hy : ∀ d z, y = d :: z → d ≠ 47 ∧ d ≠ 42) : Lx.blankLen ((c :: r) ++ y) = 0 := by
  have hb := nameB_cases c (nameOk_cons c r h).1
  rw [List.cons_append, Lx.blankLen_cons, if_neg (by rw [hb.1]; simp)]
  cases r with
  | nil =>
    cases y with
    | nil => rfl
    | cons d z =>
      obtain ⟨h1, h2⟩ := hy d z rfl
      rw [List.nil_append, Lx.commentLen_cons, if_neg (fun h => h1 h.2), if_neg (fun h => h2 h.2)]
  | cons d r =>
    have hd := nameB_cases d (nameOk_cons d r (nameOk_cons c _ h).2).1
    simp only [nameOk, Bool.and_eq_true, Bool.not_eq_true', Bool.and_eq_false_iff] at h
    rw [List.cons_append, Lx.commentLen_cons, if_neg, if_neg]
    · exact fun h' => hd.2.2.2.2.2.1 h'.2
    · rintro ⟨rfl, rfl⟩
      have := h.1.2
      simp at this

theorem takeWhile_le (q : UInt8 → Bool) (c : UInt8) (hc : q c = false) : ∀ (x z : List UInt8), ((x ++ c :: z).takeWhile q).length ≤ x.length
  | [], z => by simp [hc]
  | d :: x, z => by
    rw [List.cons_append, List.takeWhile_cons]
    split
    · have := takeWhile_le q c hc x z; simp; omega
    · simp
theorem numRest_stop : ∀ (x z : List UInt8), Lx.numRest (x ++ 62 :: z) ≤ x.length
  | [], z => by
    rw [List.nil_append, Lx.num_zero 62 z (by decide)]; simp
  | [c], z => by
    show Lx.numRest (c :: 62 :: z) ≤ 1
    unfold Lx.numRest
    rw [show Lx.isSg 62 = false by decide, Bool.and_false, if_neg (by simp)]
    split
    · rw [Lx.num_zero 62 z (by decide)]; omega
    · omega
  | c :: d :: x, z => by
    have h1 := numRest_stop x z
    have h2 := numRest_stop (d :: x) z
    rw [List.cons_append, List.cons_append] at *
    unfold Lx.numRest
    split
    · simp; omega
    · split
      · simp at h2 ⊢; omega
      · simp

/-- A sign that a name's byte begins takes no > but behind a stroke. -/
theorem sign_tab (w : List UInt8) (hw : w ∈ Lx.signTab) (i : Nat) (hi : 1 ≤ i) (h62 : w[i]? = some 62) (c : UInt8) (hc : w[0]? = some c) (hn : nameB c = true) : i = 1 ∧ c = 45 := by
  have key : (Lx.signTab.all fun w => (List.range 3).all fun i => !(decide (1 ≤ i) && decide (w[i]? = some 62) && (w[0]?.map nameB).getD false) || (decide (i = 1) && decide (w[0]? = some 45))) = true := by decide +kernel
  have hl : ∀ w ∈ Lx.signTab, w.length ≤ 3 := by decide +kernel
  have hlt : i < 3 := by have := (List.getElem?_eq_some_iff.1 h62).1; have := hl w hw; omega
  have k1 := List.all_eq_true.1 (List.all_eq_true.1 key w hw) i (List.mem_range.2 hlt)
  rw [hc, h62] at k1
  simpa [hi, hn] using k1

/-- A token that begins in a name ends in it. -/
theorem name_tok (c : UInt8) (r z : List UInt8) (h : nameOk (c :: r) = true) (hl : (c :: r).getLast? ≠ some 45) : (Lx.first ((c :: r) ++ 62 :: z)).2 ≤ r.length + 1 := by
  have hn := (nameOk_cons c r h).1
  have hb := nameB_cases c hn
  have hcl : ∀ q, c ≠ q → Lx.closedLen q (c :: (r ++ 62 :: z)) = 0 := fun q hq => by rw [Lx.closedLen_cons, if_neg hq]
  rw [List.cons_append, Lx.first_cons, if_neg hb.2.1]
  split
  · have := takeWhile_le Lx.alnum 62 (by decide) (c :: r) z
    simpa [Lx.wordLen] using this
  · split
    · dsimp only
      rw [Lx.numLen_cons]
      split
      · have := numRest_stop r z; omega
      · omega
    · rw [hcl 34 hb.2.2.1, hcl 39 hb.2.2.2.2.2.2.1, if_neg (by omega), if_neg (by omega)]
      split
      · rename_i hs
        dsimp only
        have hw := Lx.sign_word _ hs
        obtain ⟨S, hS⟩ : ∃ S, S = Lx.signLen (c :: (r ++ 62 :: z)) := ⟨_, rfl⟩
        rw [← hS] at hw hs ⊢
        rcases Nat.lt_or_ge (r.length + 1) S with hlt | hge
        · have h62 : ((c :: (r ++ 62 :: z)).take S)[r.length + 1]? = some 62 := by
            rw [List.getElem?_take, if_pos hlt, List.getElem?_cons_succ, List.getElem?_append_right (Nat.le_refl _), Nat.sub_self]; rfl
          have h0 : ((c :: (r ++ 62 :: z)).take S)[0]? = some c := by rw [List.getElem?_take, if_pos (by omega)]; rfl
          obtain ⟨h1, h2⟩ := sign_tab _ hw (r.length + 1) (by omega) h62 c h0 hn
          have hr : r = [] := List.length_eq_zero_iff.1 (by omega)
          subst hr h2
          exact absurd rfl hl
        · exact hge
      · simp

/-- What comes of a name and a > behind it: tokens whose texts are the name, none a >, no blank but ahead of the first one. -/
theorem name_toks (z : List UInt8) : ∀ (n : Nat) (l : List UInt8), l.length ≤ n → nameOk l = true → l.getLast? ≠ some 45 → ∀ p, ∃ ts : List (Nat × List UInt8 × Bool), ∃ q,
    tb p (l ++ 62 :: 32 :: z) = ts ++ (5, [62], q) :: tb false (32 :: z) ∧ (ts.map fun t => t.2.1).flatten = l ∧ (∀ t ∈ ts, t.1 ≠ 7 ∧ t.2.1 ≠ [62]) ∧ (∀ i t, ts[i]? = some t → t.2.2 = (decide (i = 0) && p)) ∧ (l ≠ [] → ts ≠ []) := by
  intro n
  induction n with
  | zero =>
    intro l hl _ _ p
    obtain rfl : l = [] := List.length_eq_zero_iff.1 (by omega)
    refine ⟨[], p, ?_, rfl, by simp, by simp, fun h => absurd rfl h⟩
    have hs : Lx.signLen (62 :: 32 :: z) = 1 := by
      rw [Lx.sign_ref]
      simp [Lx.refSign, Lx.threes, Lx.twos, Lx.ones, Lx.oneBytes, List.isPrefixOf]
    have h1 : Lx.numLen (62 :: 32 :: z) = 0 := by rw [Lx.numLen_cons, show Lx.digit 62 = false by decide, show ((62 : UInt8) == 46) = false by decide]; simp
    have h2 : Lx.closedLen 34 (62 :: 32 :: z) = 0 := by rw [Lx.closedLen_cons, if_neg (by decide)]
    have h3 : Lx.closedLen 39 (62 :: 32 :: z) = 0 := by rw [Lx.closedLen_cons, if_neg (by decide)]
    have hf : Lx.first (62 :: 32 :: z) = (5, 1) := by
      rw [Lx.first_cons, if_neg (by decide), if_neg (by decide), h1, h2, h3, hs]
      simp
    rw [List.nil_append, Lx.tb_tok p _ (by simp) (by rw [Lx.blankLen_cons, if_neg (by decide), Lx.commentLen_cons, if_neg (by decide), if_neg (by decide)]), hf]
    rfl
  | succ n ih =>
    intro l hl hok hlast p
    cases l with
    | nil => exact ih [] (by simp) hok hlast p
    | cons c r =>
      have hb0 := name_blank c r (62 :: 32 :: z) hok (fun d z' e => by injection e with e1 _; subst e1; exact ⟨by decide, by decide⟩)
      have hm := name_tok c r (32 :: z) hok hlast
      have hpos := (Lx.first_le ((c :: r) ++ 62 :: 32 :: z) (by simp)).1
      obtain ⟨m, hmm⟩ : ∃ m, m = (Lx.first ((c :: r) ++ 62 :: 32 :: z)).2 := ⟨_, rfl⟩
      rw [← hmm] at hm hpos
      have hk7 : (Lx.first ((c :: r) ++ 62 :: 32 :: z)).1 ≠ 7 := by
        have hb := nameB_cases c (nameOk_cons c r hok).1
        rw [List.cons_append, Lx.first_cons, if_neg hb.2.1]
        split
        · simp
        · split
          · simp
          · split
            · simp
            · split
              · simp
              · split <;> simp
      have hd : ((c :: r) ++ 62 :: 32 :: z).drop m = (c :: r).drop m ++ 62 :: 32 :: z := by rw [List.drop_append_of_le_length (by simpa using hm)]
      have ht : ((c :: r) ++ 62 :: 32 :: z).take m = (c :: r).take m := by rw [List.take_append_of_le_length (by simpa using hm)]
      have hok2 := nameOk_drop m (c :: r) hok
      have hlast2 : ((c :: r).drop m).getLast? ≠ some 45 := by
        rcases Nat.lt_or_ge m (r.length + 1) with h | h
        · rw [List.getLast?_drop, if_neg (by simp; omega)]; exact hlast
        · rw [List.drop_of_length_le (by simpa using h)]; simp
      obtain ⟨ts, q, e1, e2, e3, e4, _⟩ := ih ((c :: r).drop m) (by rw [List.length_drop]; simp at hl ⊢; omega) hok2 hlast2 false
      refine ⟨((Lx.first ((c :: r) ++ 62 :: 32 :: z)).1, (c :: r).take m, p) :: ts, q, ?_, ?_, ?_, ?_, fun _ => by simp⟩
      · rw [Lx.tb_tok p _ (by simp) hb0, ← hmm, ht, hd, e1]; rfl
      · rw [List.map_cons, List.flatten_cons, e2]; exact List.take_append_drop m (c :: r)
      · intro t ht'
        rcases List.mem_cons.1 ht' with rfl | ht'
        · refine ⟨hk7, fun e => ?_⟩
          obtain ⟨k, rfl⟩ : ∃ k, m = k + 1 := ⟨m - 1, by omega⟩
          dsimp only at e
          rw [List.take_succ_cons] at e
          injection e with e _
          exact (nameB_cases c (nameOk_cons c r hok).1).2.2.2.2.1 e
        · exact e3 t ht'
      · intro i t hit
        cases i with
        | zero => simp at hit; subst hit; simp
        | succ i =>
          rw [List.getElem?_cons_succ] at hit
          have := e4 i t hit
          simpa using this
end Go.Proofs.YtnkheejpmkflaaaDoor.Dx
