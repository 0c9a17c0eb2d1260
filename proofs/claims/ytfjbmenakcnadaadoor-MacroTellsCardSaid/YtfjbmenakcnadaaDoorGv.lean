/- What is proved: plain facts: what stands in a macro's brackets, printed and told again. (and what stands with it) -/
import Derived.Test.YtfjbmenakcnadaaDoorGp
import Derived.Test.YtfjbmenakcnadaaDoorGu
import Derived.Test.YtfjbmenakcnadaaDoorGk
import Derived.Test.YtfjbmenakcnadaaDoorGt
import Derived.Test.YtfjbmenakcnadaaDoorGe
import Derived.SizedLaws
import Derived.Test.YtfjbmenakcnadaaDoorGl
import Derived.Laws.OwnMore
import Derived.Laws.AppendOwnNone
import Derived.Maps.OwnRows
import Derived.Test.YtfjbmenakcnadaaDoorGq

/- What is proved: plain facts: what stands in a macro's brackets, printed and told again. -/
namespace Go.Proofs.YtfjbmenakcnadaaDoor
namespace Lx

/-- A word: a letter, then letters and digits. -/
def Word (w : List UInt8) : Prop := ∃ c r, w = c :: r ∧ letter c = true ∧ ∀ x ∈ w, alnum x = true
theorem Word.ne {w : List UInt8} (h : Word w) : w ≠ [] := by obtain ⟨c, r, rfl, _⟩ := h; simp
theorem u8_every (P : UInt8 → Bool) (h : ((List.range 256).all fun n => P (UInt8.ofNat n)) = true) (c : UInt8) : P c = true := by
  have := List.all_eq_true.1 h c.toNat (List.mem_range.2 c.toNat_lt)
  simpa using this
theorem letter_first (c : UInt8) (h : letter c = true) : isBl c = false ∧ c ≠ 47 ∧ c ≠ 10 := by
  have := u8_every (fun c => !letter c || decide (isBl c = false ∧ c ≠ 47 ∧ c ≠ 10)) (by decide +kernel) c
  rw [h] at this
  simpa using this
theorem alnum_good (c : UInt8) (h : alnum c = true) : c ≠ 10 ∧ c ≠ 92 ∧ c ≠ 47 := by
  have := u8_every (fun c => !alnum c || decide (c ≠ 10 ∧ c ≠ 92 ∧ c ≠ 47)) (by decide +kernel) c
  rw [h] at this
  simpa using this

/-- What stands behind a word and is no part of it. -/
def Stop (R : List UInt8) : Prop := ∀ c r, R = c :: r → alnum c = false
theorem word_len {w R : List UInt8} (h : ∀ x ∈ w, alnum x = true) (hR : Stop R) : wordLen (w ++ R) = w.length := by
  induction w with
  | nil =>
    cases R with
    | nil => rfl
    | cons c r => show ((c :: r).takeWhile alnum).length = 0; rw [List.takeWhile_cons, hR c r rfl]; rfl
  | cons x w ih =>
    have := ih (fun y hy => h y (List.mem_cons_of_mem _ hy))
    unfold wordLen at this ⊢
    rw [List.cons_append, List.takeWhile_cons, if_pos (h x List.mem_cons_self), List.length_cons, List.length_cons, this]
theorem tb_word {w R : List UInt8} (p : Bool) (h : Word w) (hR : Stop R) : tb p (w ++ R) = (1, w, p) :: tb false R := by
  obtain ⟨c, r, hw, hc, hall⟩ := h
  obtain ⟨h1, h2, h3⟩ := letter_first c hc
  have hl := word_len hall hR
  have hb : blankLen (w ++ R) = 0 := by rw [hw, List.cons_append, blank_noslash c _ h2, if_neg (by rw [h1]; simp)]
  have hf : first (w ++ R) = (1, w.length) := by
    rw [hw, List.cons_append, first_cons, if_neg h3, if_pos hc, ← List.cons_append, ← hw, hl]
  rw [tb_tok p _ (by rw [hw]; simp) hb, hf]
  simp
theorem tb_lpar (p : Bool) (R : List UInt8) : tb p (40 :: R) = (5, [40], p) :: tb false R := by
  have hb : blankLen (40 :: R) = 0 := by rw [blank_noslash 40 R (by decide), if_neg (by decide)]
  have hs : signLen (40 :: R) = 1 := by rw [sign_ref]; simp [refSign, threes, twos, ones, oneBytes, List.isPrefixOf]
  have hn : numLen (40 :: R) = 0 := by rw [numLen_cons, if_neg (by simp [show digit 40 = false by decide])]
  have h34 : closedLen 34 (40 :: R) = 0 := by rw [closedLen_cons, if_neg (by decide)]
  have h39 : closedLen 39 (40 :: R) = 0 := by rw [closedLen_cons, if_neg (by decide)]
  have hf : first (40 :: R) = (5, 1) := by rw [first_cons, hn, h34, h39, hs]; simp [show letter 40 = false by decide]
  rw [tb_tok p _ (by simp) hb, hf]
  rfl
theorem tb_rpar (p : Bool) (R : List UInt8) : tb p (41 :: R) = (5, [41], p) :: tb false R := by
  have hb : blankLen (41 :: R) = 0 := by rw [blank_noslash 41 R (by decide), if_neg (by decide)]
  have hs : signLen (41 :: R) = 1 := by rw [sign_ref]; simp [refSign, threes, twos, ones, oneBytes, List.isPrefixOf]
  have hn : numLen (41 :: R) = 0 := by rw [numLen_cons, if_neg (by simp [show digit 41 = false by decide])]
  have h34 : closedLen 34 (41 :: R) = 0 := by rw [closedLen_cons, if_neg (by decide)]
  have h39 : closedLen 39 (41 :: R) = 0 := by rw [closedLen_cons, if_neg (by decide)]
  have hf : first (41 :: R) = (5, 1) := by rw [first_cons, hn, h34, h39, hs]; simp [show letter 41 = false by decide]
  rw [tb_tok p _ (by simp) hb, hf]
  rfl
theorem tb_comma (p : Bool) (R : List UInt8) : tb p (44 :: R) = (5, [44], p) :: tb false R := by
  have hb : blankLen (44 :: R) = 0 := by rw [blank_noslash 44 R (by decide), if_neg (by decide)]
  have hs : signLen (44 :: R) = 1 := by rw [sign_ref]; simp [refSign, threes, twos, ones, oneBytes, List.isPrefixOf]
  have hn : numLen (44 :: R) = 0 := by rw [numLen_cons, if_neg (by simp [show digit 44 = false by decide])]
  have h34 : closedLen 34 (44 :: R) = 0 := by rw [closedLen_cons, if_neg (by decide)]
  have h39 : closedLen 39 (44 :: R) = 0 := by rw [closedLen_cons, if_neg (by decide)]
  have hf : first (44 :: R) = (5, 1) := by rw [first_cons, hn, h34, h39, hs]; simp [show letter 44 = false by decide]
  rw [tb_tok p _ (by simp) hb, hf]
  rfl
theorem tb_dots (p : Bool) (R : List UInt8) : tb p (46 :: 46 :: 46 :: R) = (5, [46, 46, 46], p) :: tb false R := by
  have hb : blankLen (46 :: 46 :: 46 :: R) = 0 := by rw [blank_noslash 46 _ (by decide), if_neg (by decide)]
  have hs : signLen (46 :: 46 :: 46 :: R) = 3 := by rw [sign_ref]; simp [refSign, threes, List.isPrefixOf]
  have hn : numLen (46 :: 46 :: 46 :: R) = 0 := by rw [numLen_cons, if_neg (by simp [headDigit, show digit 46 = false by decide])]
  have h34 : closedLen 34 (46 :: 46 :: 46 :: R) = 0 := by rw [closedLen_cons, if_neg (by decide)]
  have h39 : closedLen 39 (46 :: 46 :: 46 :: R) = 0 := by rw [closedLen_cons, if_neg (by decide)]
  have hf : first (46 :: 46 :: 46 :: R) = (5, 3) := by rw [first_cons, hn, h34, h39, hs]; simp [show letter 46 = false by decide]
  rw [tb_tok p _ (by simp) hb, hf]
  rfl

/-- A token's kind and text. -/
def kt (t : Nat × List UInt8 × Bool) : Nat × List UInt8 := (t.1, t.2.1)
/-- What can stand between commas. -/
def ItemB (e : Nat × List UInt8) : Prop := (e.1 = 1 ∧ Word e.2) ∨ e = (5, [46, 46, 46])
theorem tb_item {e : Nat × List UInt8} (h : ItemB e) (p : Bool) (R : List UInt8) (hR : Stop R) : tb p (e.2 ++ R) = (e.1, e.2, p) :: tb false R := by
  rcases h with ⟨h1, h2⟩ | rfl
  · rw [h1]; exact tb_word p h2 hR
  · exact tb_dots p R
/-- Texts with something between, and a bracket behind. -/
def joinB (sep : List UInt8) : List (List UInt8) → List UInt8
  | [] => [41]
  | [w] => w ++ [41]
  | w :: w' :: r => w ++ (sep ++ joinB sep (w' :: r))
def interB : List (Nat × List UInt8) → List (Nat × List UInt8)
  | [] => [(5, [41])]
  | [e] => [e, (5, [41])]
  | e :: e' :: r => e :: (5, [44]) :: interB (e' :: r)
theorem stop_cons (c : UInt8) (r : List UInt8) (h : alnum c = false) : Stop (c :: r) := fun c' r' e => by injection e with e1 _; rw [← e1]; exact h
theorem tb_join (sep : List UInt8) (hs : sep = [44] ∨ sep = [44, 32]) (R : List UInt8) : ∀ (es : List (Nat × List UInt8)) (p : Bool), (∀ e ∈ es, ItemB e) →
    ∃ pre, tb p (joinB sep (es.map Prod.snd) ++ R) = pre ++ tb false R ∧ pre.map kt = interB es
  | [], p, _ => ⟨[(5, [41], p)], tb_rpar p R, rfl⟩
  | [e], p, h => by
    refine ⟨[(e.1, e.2, p), (5, [41], false)], ?_, rfl⟩
    show tb p ((e.2 ++ [41]) ++ R) = _
    rw [List.append_assoc, tb_item (h e (by simp)) p ([41] ++ R) (stop_cons 41 R (by decide))]
    show _ :: tb false (41 :: R) = _
    rw [tb_rpar]
    rfl
  | e :: e' :: r, p, h => by
    obtain ⟨pre, h1, h2⟩ := tb_join sep hs R (e' :: r) (decide (sep = [44, 32])) (fun x hx => h x (List.mem_cons_of_mem _ hx))
    refine ⟨(e.1, e.2, p) :: (5, [44], false) :: pre, ?_, by rw [List.map_cons, List.map_cons, h2]; rfl⟩
    show tb p ((e.2 ++ (sep ++ joinB sep ((e' :: r).map Prod.snd))) ++ R) = _
    rw [List.append_assoc, List.append_assoc]
    rcases hs with rfl | rfl
    · rw [tb_item (h e (by simp)) p ([44] ++ (joinB [44] ((e' :: r).map Prod.snd) ++ R)) (stop_cons 44 _ (by decide))]
      show _ :: tb false (44 :: (joinB [44] ((e' :: r).map Prod.snd) ++ R)) = _
      rw [tb_comma]
      rw [show decide ([44] = ([44, 32] : List UInt8)) = false by decide] at h1
      rw [h1]
      rfl
    · rw [tb_item (h e (by simp)) p ([44, 32] ++ (joinB [44, 32] ((e' :: r).map Prod.snd) ++ R)) (stop_cons 44 _ (by decide))]
      show _ :: tb false (44 :: 32 :: (joinB [44, 32] ((e' :: r).map Prod.snd) ++ R)) = _
      rw [tb_comma, Mx.tb_sp]
      rw [show decide ([44, 32] = ([44, 32] : List UInt8)) = true by decide] at h1
      rw [h1]
      rfl
/-- Of a text without a backslash no pair is taken out. -/
theorem adj_no92 : ∀ (l : List UInt8), (∀ c ∈ l, c ≠ 92) → ¬ adj l
  | [], _ => id
  | [_], _ => id
  | c :: d :: r, h => by
    intro ha
    rcases ha with ⟨h1, _⟩ | h1
    · exact h c (by simp) h1
    · exact adj_no92 (d :: r) (fun x hx => h x (List.mem_cons_of_mem _ hx)) h1
theorem mem_joinB (sep : List UInt8) (P : UInt8 → Prop) (h41 : P 41) (hs : ∀ c ∈ sep, P c) : ∀ (ws : List (List UInt8)), (∀ w ∈ ws, ∀ c ∈ w, P c) → ∀ c ∈ joinB sep ws, P c
  | [], _, c, hc => by simp [joinB] at hc; rw [hc]; exact h41
  | [w], h, c, hc => by
    rcases List.mem_append.1 hc with hc | hc
    · exact h w (by simp) c hc
    · simp at hc; rw [hc]; exact h41
  | w :: w' :: r, h, c, hc => by
    rcases List.mem_append.1 hc with hc | hc
    · exact h w (by simp) c hc
    · rcases List.mem_append.1 hc with hc | hc
      · exact hs c hc
      · exact mem_joinB sep P h41 hs (w' :: r) (fun x hx => h x (List.mem_cons_of_mem _ hx)) c hc
/-- A name's text is a word. -/
theorem kind_word : ∀ (p : Bool) (u : List UInt8), ∀ t ∈ tb p u, t.1 = 1 → Word t.2.1 := by
  refine tbInd ?_ ?_ ?_
  · intro p t ht; simp [tb_nil] at ht
  · intro p u hb ih
    rw [tb_blank p u hb]
    exact ih
  · intro p u hu hb ih t ht h1
    rw [tb_tok p u hu hb] at ht
    rcases List.mem_cons.1 ht with rfl | ht
    · cases u with
      | nil => exact absurd rfl hu
      | cons c r =>
        dsimp only at h1 ⊢
        rw [first_cons] at h1 ⊢
        split at h1
        · simp at h1
        · rename_i hc10
          rw [if_neg hc10]
          split at h1
          · rename_i hc
            rw [if_pos hc]
            dsimp only
            rw [show wordLen (c :: r) = ((c :: r).takeWhile alnum).length from rfl, takeWhile_take_len]
            refine ⟨c, r.takeWhile alnum, ?_, hc, fun x hx => mem_takeWhile alnum _ x hx⟩
            rw [List.takeWhile_cons, if_pos (by simp [alnum, hc])]
          · exfalso
            split at h1
            · simp at h1
            · split at h1
              · simp at h1
              · split at h1
                · simp at h1
                · split at h1 <;> simp at h1
    · exact ih t ht h1
/-- What is behind some of a text's tokens are a text's tokens. -/
theorem tb_suffix : ∀ (p : Bool) (u : List UInt8), ∀ pre bb, tb p u = pre ++ bb → ∃ p' u', bb = tb p' u' := by
  refine tbInd ?_ ?_ ?_
  · intro p pre bb h
    have := List.append_eq_nil_iff.1 (h.symm.trans (tb_nil p))
    exact ⟨false, [], by rw [this.2, tb_nil]⟩
  · intro p u hb ih pre bb h
    rw [tb_blank p u hb] at h
    exact ih pre bb h
  · intro p u hu hb ih pre bb h
    cases pre with
    | nil => exact ⟨p, u, h.symm⟩
    | cons x pre =>
      rw [tb_tok p u hu hb] at h
      injection h with _ h
      exact ih pre bb h
def bareA (l : List (Nat × List UInt8 × Bool)) : List (Nat × List UInt8 × Bool) := match l with | [] => [] | (k, t, _) :: r => (k, t, false) :: r
/-- A body printed behind a blank, told again. -/
theorem body_back (p : Bool) (u : List UInt8) (h : ∀ t ∈ tb p u, t.1 ≠ 6) (q : Bool) : tb q (32 :: prA (bareA (tb p u))) = Mx.setB (tb p u) := by
  have hb := back p u h
  generalize tb p u = B at hb
  rw [Mx.tb_sp]
  rcases B with _ | ⟨⟨k, t, b⟩, r⟩
  · rfl
  · rw [← Mx.tb_true false]
    cases b with
    | false => show Mx.setB (tb false (prA ((k, t, false) :: r))) = _; rw [hb]
    | true =>
      rw [prA_cons] at hb
      simp only [if_true] at hb
      rw [show [32] ++ t ++ prA r = 32 :: (t ++ prA r) by simp, Mx.tb_sp, ← Mx.tb_true false] at hb
      show Mx.setB (tb false (prA ((k, t, false) :: r))) = _
      rw [prA_cons]
      simp only [Bool.false_eq_true, if_false, List.nil_append]
      rw [hb]
      rfl
end Lx
end Go.Proofs.YtfjbmenakcnadaaDoor

/- What is proved: what was defined, printed, is defined again (plain); names in brackets are told (plain). -/
namespace Go.Proofs.YtfjbmenakcnadaaDoor
namespace Mx
open Lx (tb prA joinB interB ItemB Word Stop)

def ktK (t : K) : Int × ByteArray := (t.kind, t.text)
def interK : List (Int × ByteArray) → List (Int × ByteArray)
  | [] => [(5, RP)]
  | [e] => [e, (5, RP)]
  | e :: e' :: r => e :: (5, CM) :: interK (e' :: r)
def itemsK (ps : List ByteArray) (va : Bool) : List (Int × ByteArray) := ps.map (fun p => (1, p)) ++ if va then [(5, EL)] else []
/-- May these names stand behind those? -/
def okAll : List ByteArray → List ByteArray → Bool
  | _, [] => true
  | acc, p :: r => (!decide (p = VA) && !has acc p) && okAll (acc ++ [p]) r

theorem isP_kt {t : K} {s : ByteArray} (h : ktK t = (5, s)) (s' : ByteArray) : isP t s' = decide (s = s') := by
  simp only [ktK, Prod.mk.injEq] at h
  simp [isP, h.1, h.2]
theorem isP_one {t : K} {s : ByteArray} (h : ktK t = (1, s)) (s' : ByteArray) : isP t s' = false := by
  simp only [ktK, Prod.mk.injEq] at h
  simp [isP, h.1]
theorem parOk_kt {t : K} {s : ByteArray} (h : ktK t = (1, s)) (ps : List ByteArray) : parOk ps t = (!decide (s = VA) && !has ps s) := by
  simp only [ktK, Prod.mk.injEq] at h
  simp [parOk, h.1, h.2]
theorem two_of {l : List K} {a b : Int × ByteArray} {r : List (Int × ByteArray)} (h : l.map ktK = a :: b :: r) : ∃ x y l', l = x :: y :: l' ∧ ktK x = a ∧ ktK y = b ∧ l'.map ktK = r := by
  obtain ⟨x, l1, rfl, h1, h2⟩ := List.map_eq_cons_iff.1 h
  obtain ⟨y, l2, rfl, h3, h4⟩ := List.map_eq_cons_iff.1 h2
  exact ⟨x, y, l2, rfl, h1, h3, h4⟩
theorem items_ne {ps : List ByteArray} {va : Bool} (h : ¬ (ps = [] ∧ va = false)) : ∃ e r, itemsK ps va = e :: r := by
  cases ps with
  | nil => cases va with
    | false => exact absurd ⟨rfl, rfl⟩ h
    | true => exact ⟨_, _, rfl⟩
  | cons p ps => exact ⟨_, _, rfl⟩
theorem plist_inter (va : Bool) (rest : List K) : ∀ (ps acc : List ByteArray) (l : List K), ¬ (ps = [] ∧ va = false) → l.map ktK = interK (itemsK ps va) →
    plist acc (l ++ rest) = if okAll acc ps then some (acc ++ ps, va, rest) else none
  | [], acc, l, hne, h => by
    cases va with
    | false => exact absurd ⟨rfl, rfl⟩ hne
    | true =>
      obtain ⟨x, y, l', rfl, hx, hy, hl⟩ := two_of (show l.map ktK = (5, EL) :: (5, RP) :: [] from h)
      rw [List.map_eq_nil_iff.1 hl]
      simp only [List.cons_append, List.nil_append, plist, isP_kt hx, isP_kt hy, okAll]
      simp
  | p :: ps, acc, l, hne, h => by
    by_cases hn : ps = [] ∧ va = false
    · obtain ⟨rfl, rfl⟩ := hn
      obtain ⟨x, y, l', rfl, hx, hy, hl⟩ := two_of (show l.map ktK = (1, p) :: (5, RP) :: [] from h)
      rw [List.map_eq_nil_iff.1 hl]
      have ht : x.text = p := congrArg Prod.snd hx
      simp only [List.cons_append, List.nil_append, plist, isP_one hx, isP_kt hy, parOk_kt hx, okAll, ht]
      simp
    · obtain ⟨e, r, he⟩ := items_ne hn
      have h' : l.map ktK = (1, p) :: (5, CM) :: interK (itemsK ps va) := by
        rw [h, show itemsK (p :: ps) va = (1, p) :: itemsK ps va from rfl, he]
        rfl
      obtain ⟨x, y, l', rfl, hx, hy, hl⟩ := two_of h'
      have ht : x.text = p := congrArg Prod.snd hx
      have ih := plist_inter va rest ps (acc ++ [p]) l' hn hl
      rcases Bool.eq_false_or_eq_true (!decide (p = VA) && !has acc p) with hX | hX
      · have ho : okAll acc (p :: ps) = okAll (acc ++ [p]) ps := by rw [okAll, hX, Bool.true_and]
        rw [ho]
        simp only [List.cons_append, plist, isP_one hx, isP_kt hy, parOk_kt hx, ht, ih, hX, show decide (CM = RP) = false by decide]
        simp
      · have ho : okAll acc (p :: ps) = false := by rw [okAll, hX, Bool.false_and]
        rw [ho]
        simp only [List.cons_append, plist, isP_one hx, isP_kt hy, parOk_kt hx, ht, ih, hX]
        simp
theorem brack_inter {u : K} (hu : ktK u = (5, LP)) (hb : u.bl = false) (ps : List ByteArray) (va : Bool) (l rest : List K) (h : l.map ktK = interK (itemsK ps va)) :
    brack (u :: (l ++ rest)) = if okAll [] ps then .ok (true, ps, va, rest) else .error 61 := by
  have hp : isP u LP = true := by rw [isP_kt hu]; exact decide_eq_true rfl
  by_cases hn : ps = [] ∧ va = false
  · obtain ⟨rfl, rfl⟩ := hn
    obtain ⟨c, l', rfl, hc, hl⟩ := List.map_eq_cons_iff.1 (show l.map ktK = [(5, RP)] from h)
    rw [List.map_eq_nil_iff.1 hl]
    have hr : isP c RP = true := by rw [isP_kt hc]; exact decide_eq_true rfl
    simp [brack, hb, hp, hr, okAll]
  · have hpl := plist_inter va rest ps [] l hn h
    obtain ⟨e, r, he⟩ := items_ne hn
    have hhead : ∃ c l', l = c :: l' ∧ isP c RP = false := by
      cases ps with
      | nil =>
        cases va with
        | false => exact absurd ⟨rfl, rfl⟩ hn
        | true =>
          obtain ⟨x, y, l', rfl, hx, hy, hl⟩ := two_of (show l.map ktK = (5, EL) :: (5, RP) :: [] from h)
          exact ⟨x, _, rfl, by rw [isP_kt hx]; decide⟩
      | cons p ps =>
        have : ∃ q, l.map ktK = (1, p) :: q := by
          rw [h]
          by_cases hn' : ps = [] ∧ va = false
          · rw [hn'.1, hn'.2]; exact ⟨_, rfl⟩
          · obtain ⟨e', r', he'⟩ := items_ne hn'
            rw [show itemsK (p :: ps) va = (1, p) :: itemsK ps va from rfl, he']
            exact ⟨_, rfl⟩
        obtain ⟨q, hq⟩ := this
        obtain ⟨x, l', rfl, hx, hl⟩ := List.map_eq_cons_iff.1 hq
        exact ⟨x, _, rfl, isP_one hx _⟩
    obtain ⟨c, l', rfl, hc⟩ := hhead
    rw [List.cons_append] at hpl ⊢
    simp only [brack, hb, hp, hc, hpl, List.nil_append]
    cases okAll [] ps <;> simp
theorem plist_out (n : Nat) : ∀ (l : List K) (acc : List ByteArray) (res : List ByteArray × Bool × List K), l.length ≤ n → plist acc l = some res →
    ∃ ps, res.1 = acc ++ ps ∧ okAll acc ps = true ∧ ∀ p ∈ ps, ∃ t ∈ l, t.kind = 1 ∧ t.text = p := by
  induction n with
  | zero =>
    intro l acc res hn h
    rw [List.length_eq_zero_iff.1 (Nat.le_zero.1 hn)] at h
    simp [plist] at h
  | succ n ih =>
    intro l acc res hn h
    rcases l with _ | ⟨a, _ | ⟨b, r⟩⟩
    · simp [plist] at h
    · simp [plist] at h
    · simp only [plist] at h
      split at h
      · split at h
        · injection h with h
          subst h
          exact ⟨[], by simp, rfl, by simp⟩
        · cases h
      · split at h
        · rename_i hp
          simp only [parOk, Bool.and_eq_true, beq_iff_eq] at hp
          obtain ⟨hk, hp⟩ := hp
          split at h
          · injection h with h
            subst h
            refine ⟨[a.text], rfl, by simpa [okAll] using hp, ?_⟩
            intro p hpm
            simp only [List.mem_singleton] at hpm
            subst hpm
            exact ⟨a, by simp, hk, rfl⟩
          · split at h
            · obtain ⟨ps, h1, h2, h3⟩ := ih r _ res (by simp only [List.length_cons] at hn; omega) h
              refine ⟨a.text :: ps, by rw [h1]; simp, ?_, ?_⟩
              · rw [okAll, h2, Bool.and_true]
                simpa using hp
              · intro p hpm
                rcases List.mem_cons.1 hpm with rfl | hpm
                · exact ⟨a, by simp, hk, rfl⟩
                · obtain ⟨t, ht, h4⟩ := h3 p hpm
                  exact ⟨t, List.mem_cons_of_mem _ (List.mem_cons_of_mem _ ht), h4⟩
            · cases h
        · cases h
/-- What stood in brackets. -/
theorem brack_out {r : List K} {fn : Bool} {ps : List ByteArray} {va : Bool} {b : List K} (h : brack r = .ok (fn, ps, va, b)) :
    okAll [] ps = true ∧ (∀ p ∈ ps, ∃ t ∈ r, t.kind = 1 ∧ t.text = p) ∧ (fn = false → ps = [] ∧ va = false ∧ b = r) := by
  rcases r with _ | ⟨u, r⟩
  · simp only [brack, Except.ok.injEq, Prod.mk.injEq] at h
    obtain ⟨rfl, rfl, rfl, rfl⟩ := h
    exact ⟨rfl, by simp, fun _ => ⟨rfl, rfl, rfl⟩⟩
  · simp only [brack] at h
    split at h
    · simp only [Except.ok.injEq, Prod.mk.injEq] at h
      obtain ⟨rfl, rfl, rfl, rfl⟩ := h
      exact ⟨rfl, by simp, fun _ => ⟨rfl, rfl, rfl⟩⟩
    · split at h
      · split at h
        · cases h
        · rename_i c r''
          split at h
          · simp only [Except.ok.injEq, Prod.mk.injEq] at h
            obtain ⟨rfl, rfl, rfl, rfl⟩ := h
            exact ⟨rfl, by simp, fun e => by cases e⟩
          · split at h
            · cases h
            · rename_i ps' va' l' hpl
              simp only [Except.ok.injEq, Prod.mk.injEq] at h
              obtain ⟨rfl, rfl, rfl, rfl⟩ := h
              obtain ⟨ps, h1, h2, h3⟩ := plist_out _ _ _ _ (Nat.le_refl _) hpl
              dsimp only at h1
              rw [List.nil_append] at h1
              subst h1
              exact ⟨h2, fun p hp => by obtain ⟨t, ht, h4⟩ := h3 p hp; exact ⟨t, List.mem_cons_of_mem _ ht, h4⟩, fun e => by cases e⟩
      · cases h

/-! What is printed. -/
def klA (t : K) : Nat × List UInt8 × Bool := (t.kind.toNat, t.text.data.toList, t.bl)
def itemsT (ps : List ByteArray) (va : Bool) : List (List UInt8) := ps.map (fun p => p.data.toList) ++ if va then [[46, 46, 46]] else []
/-- How a macro is printed. -/
def prtL (m : M) : List UInt8 :=
  m.name.data.toList ++ ((if m.fn then 40 :: joinB [44, 32] (itemsT m.ps m.va) else []) ++ (if m.body = [] then [] else 32 :: prA ((bare m.body).map klA)))

def cv (x : Nat × List UInt8 × Bool) : Int × ByteArray × Bool := ((x.1 : Int), (⟨x.2.1.toArray⟩ : ByteArray), x.2.2)
theorem klA_of {l : List K} {bb : List (Nat × List UInt8 × Bool)} (h : l.map kal = bb.map cv) : l.map klA = bb := by
  have e : l.map klA = (l.map kal).map fun z => (z.1.toNat, z.2.1.data.toList, z.2.2) := by rw [List.map_map]; rfl
  rw [e, h, List.map_map]
  refine List.map_id'' (fun z => ?_) bb
  simp [cv]
theorem bare_klA (l : List K) : (bare l).map klA = Lx.bareA (l.map klA) := by cases l <;> rfl
theorem pasteBad_bare (l : List K) : pasteBad (bare l) = pasteBad l := by
  rcases l with _ | ⟨t, _ | ⟨u, r⟩⟩
  · rfl
  · rfl
  · simp only [pasteBad, bare, List.head?_cons, List.getLast?_cons_cons]
    rfl
theorem hashBad_bare (ps : List ByteArray) (va : Bool) (l : List K) : hashBad ps va (bare l) = hashBad ps va l := by
  rcases l with _ | ⟨t, _ | ⟨u, r⟩⟩ <;> rfl
theorem vaIn_bare (l : List K) : vaIn (bare l) = vaIn l := by cases l <;> rfl
theorem bodyOf_bare (nm : ByteArray) (fn : Bool) (ps : List ByteArray) (va : Bool) (l : List K) : bodyOf nm fn ps va (bare l) = bodyOf nm fn ps va l := by
  unfold bodyOf
  rw [pasteBad_bare, hashBad_bare, vaIn_bare, bare_bare]
  cases l with
  | nil => rfl
  | cons t r =>
    have h1 : ¬ bare (t :: r) = [] := by simp [bare]
    have h2 : ¬ (t :: r) = [] := by simp
    simp only [h1, h2, if_false]
/-- Bodies that are alike make macros that are alike. -/
theorem bodyOf_same (nm : ByteArray) (fn : Bool) (ps : List ByteArray) (va : Bool) {b b' : List K} (h : (bare b).map kal = (bare b').map kal) :
    (bodyOf nm fn ps va b).2 = (bodyOf nm fn ps va b').2 ∧ same (bodyOf nm fn ps va b).1 (bodyOf nm fn ps va b').1 = true := by
  have e : bodyOf nm fn ps va ((bare b).map er) = bodyOf nm fn ps va ((bare b').map er) := by rw [er_kal.1 h]
  rw [bodyOf_er, bodyOf_er, bodyOf_bare, bodyOf_bare] at e
  injection e with e1 e2
  exact ⟨e2, same_er e1⟩
theorem bodyOf_ok {nm : ByteArray} {fn : Bool} {ps : List ByteArray} {va : Bool} {b : List K} (h : (bodyOf nm fn ps va b).2 = 0) : (bodyOf nm fn ps va b).1 = ⟨nm, fn, ps, va, bare b⟩ := by
  unfold bodyOf at h ⊢
  split
  · rename_i hb; subst hb; rfl
  · rename_i hb
    rw [if_neg hb] at h
    split
    · rename_i h1; rw [if_pos h1] at h; cases h
    · rename_i h1
      rw [if_neg h1] at h
      split
      · rename_i h2; rw [if_pos h2] at h; cases h
      · rename_i h2
        rw [if_neg h2] at h
        split
        · rename_i h3; rw [if_pos h3] at h; cases h
        · rfl
theorem defi_out {l : List K} (h : (defi l).2 = 0) : ∃ t r fn ps va b, l = t :: r ∧ nameOk t = true ∧ brack r = .ok (fn, ps, va, b) ∧ defi l = bodyOf t.text fn ps va b := by
  rcases l with _ | ⟨t, r⟩
  · cases h
  · simp only [defi] at h
    split at h
    · rename_i hn
      cases hb : brack r with
      | error e =>
        exfalso
        rw [hb] at h
        dsimp only at h
        subst h
        rcases r with _ | ⟨u, r⟩
        · simp [brack] at hb
        · simp only [brack] at hb
          split at hb
          · cases hb
          · split at hb
            · split at hb
              · cases hb
              · split at hb
                · cases hb
                · split at hb <;> cases hb
            · cases hb
      | ok x =>
        obtain ⟨fn, ps, va, b⟩ := x
        exact ⟨t, r, fn, ps, va, b, rfl, hn, hb, by simp only [defi, if_pos hn, hb]⟩
    · cases h
end Mx
end Go.Proofs.YtfjbmenakcnadaaDoor

/- What is proved: MacroDefines and MacroRaw answer true, in whatever memory. -/
namespace Go.Proofs.YtfjbmenakcnadaaDoor
open Go.RowKit Go.Shelf Go.WideMaps

theorem rdef_mv (v : Value) (l : List K) (w : World) (hv : Ks w v l) (hl : l.length * 56 ≤ 140737488355328) :
    Calls Tryd.prog 11 #[v] w (DefM w (Mx.defi l)) := by
  refine (rdefine_any v l w hv hl).mono ?_
  rintro e W ⟨mv, rfl, hm, hB⟩
  obtain ⟨pv, bv, rfl, hp, hb⟩ := id hm
  obtain ⟨pa, pn, pc, rfl⟩ := row_slice hp
  obtain ⟨ba, bn, bc, rfl⟩ := row_slice hb
  exact ⟨_, _, _, _, _, _, _, _, _, rfl, hm.mv, hB⟩
theorem def_mv (v : Value) (l : List K) (w : World) (hv : Ks w v l) (hx : ∀ t ∈ l, t.text.size ≤ maxLen) (hl : l.length * 56 ≤ 140737488355328) :
    Calls Tryd.prog 14 #[v] w (DefM w (Mx.defi l)) := by
  refine (define_any v l w hv hx hl).mono ?_
  rintro e W ⟨mv, rfl, hm, hB⟩
  obtain ⟨pv, bv, rfl, hp, hb⟩ := id hm
  obtain ⟨pa, pn, pc, rfl⟩ := row_slice hp
  obtain ⟨ba, bn, bc, rfl⟩ := row_slice hb
  exact ⟨_, _, _, _, _, _, _, _, _, rfl, hm.mv, hB⟩
theorem defi_body_le (l : List K) : (Mx.defi l).1.body.length ≤ l.length := by
  rcases Decidable.em ((Mx.defi l).2 = 0) with h | h
  · obtain ⟨t, r, fn, ps, va, b, rfl, hn, hb, hd⟩ := Mx.defi_out h
    rw [hd] at h ⊢
    rw [Mx.bodyOf_ok h]
    have := (brack_suffix hb).length_le
    show (Mx.bare b).length ≤ _
    rw [bare_len]
    simp only [List.length_cons]
    omega
  · rw [defi_zero l h]
    simp [Mx.M.zero]

set_option maxRecDepth 100000 in
set_option maxHeartbeats 8000000 in
theorem ldefines_any (s : ByteArray) (hs : s.size ≤ maxLen) (w : World) (hG : Glob w) : Calls Tryd.prog 3 #[.string s] w (TruePost w) := by
  unfold maxLen at hs
  have HG := Lib.hid hG
  clear hG
  by_cases h1 : s.size ≤ 500
  · have y1 : ¬ (500 : Int) < s.size := by omega
    have LS := Lib.hid (show s.size ≤ 10000000 by omega)
    have hwt := Mx.ks_wt s
    have hlen := Mx.wt_len (Mx.ks s)
    have HL := Lib.hid (show (Mx.ks s).length * 56 ≤ 140737488355328 by omega)
    have HBL := Lib.hid (show (Mx.df s).1.body.length * 56 ≤ 140737488355328 by have := defi_body_le (Mx.ks s); show (Mx.defi (Mx.ks s)).1.body.length * 56 ≤ _; omega)
    obtain ⟨ra, hra⟩ : ∃ r, r = Mx.df s := ⟨_, rfl⟩
    have da := fun w' h => ldef_mv s LS.out w' h
    rw [← hra] at da HBL
    have HRA := Lib.hid hra
    clear hwt hlen hra h1 hs
    go_enter Tryd.func3, Tryd.ntmps3
    go_wp2_with fail
    refine (awake_any _ HG.out).mono ?_
    rintro e w0 ⟨rfl, hB0⟩
    go_wp2_with fail
    refine (da _ (HG.out.later hB0)).mono ?_
    rintro e w1 ⟨n1, f1, p1, q1, r1, v1, b1, c1, d1, rfl, m1, hB10⟩
    replace hB10 := Below.then hB0 hB10
    have hB1 := hB10.alloc hB10.size (.cells #[.string n1, .bool f1, .slice p1 q1 r1, .bool v1, .slice b1 c1 d1] 26)
    have hA1 : Below w1.heap.size w1 (w1.alloc (.cells #[.string n1, .bool f1, .slice p1 q1 r1, .bool v1, .slice b1 c1 d1] 26)) := (Below.refl _ _).alloc (Nat.le_refl _) _
    have k1 := heap_alloc_new w1 (.cells #[.string n1, .bool f1, .slice p1 q1 r1, .bool v1, .slice b1 c1 d1] 26)
    replace m1 := m1.below hA1
    clear hA1 hB10 hB0
    go_wp2_with fail
    refine (rtokens_any 0 s (by omega) _).mono ?_
    rintro e wt ⟨tv, rfl, htv, hBt⟩
    have hk : Ks wt tv (Mx.ks s) := htv.ks
    replace k1 := (hBt.block _ (lt_of_block k1)).trans k1
    replace m1 := m1.below hBt
    replace hBt := Below.then hB1 hBt
    clear htv hB1
    go_wp2_with fail
    refine (rdef_mv tv (Mx.ks s) _ hk HL.out).mono ?_
    rw [show Mx.defi (Mx.ks s) = ra from HRA.out.symm]
    rintro e w2 ⟨n2, f2, p2, q2, r2, v2, b2, c2, d2, rfl, m2, hB20⟩
    replace k1 := (hB20.block _ (lt_of_block k1)).trans k1
    replace m1 := m1.below hB20
    replace hB20 := Below.then hBt hB20
    have hB2 := hB20.alloc hB20.size (.cells #[.string n2, .bool f2, .slice p2 q2 r2, .bool v2, .slice b2 c2 d2] 26)
    have hA2 : Below w2.heap.size w2 (w2.alloc (.cells #[.string n2, .bool f2, .slice p2 q2 r2, .bool v2, .slice b2 c2 d2] 26)) := (Below.refl _ _).alloc (Nat.le_refl _) _
    replace k1 := (hA2.block _ (lt_of_block k1)).trans k1
    replace m1 := m1.below hA2
    have k2 := heap_alloc_new w2 (.cells #[.string n2, .bool f2, .slice p2 q2 r2, .bool v2, .slice b2 c2 d2] 26)
    replace m2 := m2.below hA2
    clear hA2 hB20 hBt hk
    obtain ⟨x10, x11, x12, x13, x14⟩ := box_cells k1
    obtain ⟨x20, x21, x22, x23, x24⟩ := box_cells k2
    clear k1 k2
    go_wp2_with fail
    refine (full_any _ _ ra.1 _ m1 m2 HBL.out).mono ?_
    rintro e w3 ⟨rfl, hB3⟩
    have hB := Below.then hB2 hB3
    go_wp2_with fail
    go_ret
    exact ⟨rfl, hB⟩
  · have y1 : (500 : Int) < s.size := by omega
    go_enter Tryd.func3, Tryd.ntmps3
    go_wp2_with fail
    refine (awake_any _ HG.out).mono ?_
    rintro e w0 ⟨rfl, hB0⟩
    go_wp2_with fail
    go_ret
    exact ⟨rfl, hB0⟩

set_option maxRecDepth 100000 in
set_option maxHeartbeats 8000000 in
theorem lraw_any (v : Value) (l : List K) (w : World) (hv : Ks w v l) (hx : ∀ t ∈ l, t.text.size ≤ maxLen) (hl : l.length * 56 ≤ 140737488355328) (hG : Glob w) : Calls Tryd.prog 4 #[v] w (TruePost w) := by
  have HG := Lib.hid hG
  have HX := Lib.hid hx
  have HL := Lib.hid hl
  have HV := Lib.hid hv
  obtain ⟨va, vc, rfl, -⟩ := id hv
  have HBL := Lib.hid (show (Mx.defi l).1.body.length * 56 ≤ 140737488355328 by have := defi_body_le l; omega)
  obtain ⟨ra, hra⟩ : ∃ r, r = Mx.defi l := ⟨_, rfl⟩
  rw [← hra] at HBL
  have HRA := Lib.hid hra
  clear hra hG hx hl hv
  go_enter Tryd.func4, Tryd.ntmps4
  go_wp2_with fail
  refine (awake_any _ HG.out).mono ?_
  rintro e w0 ⟨rfl, hB0⟩
  go_wp2_with fail
  refine (def_mv _ l _ (HV.out.below hB0) HX.out HL.out).mono ?_
  rw [show Mx.defi l = ra from HRA.out.symm]
  rintro e w1 ⟨n1, f1, p1, q1, r1, v1, b1, c1, d1, rfl, m1, hB10⟩
  replace hB10 := Below.then hB0 hB10
  have hB1 := hB10.alloc hB10.size (.cells #[.string n1, .bool f1, .slice p1 q1 r1, .bool v1, .slice b1 c1 d1] 26)
  have hA1 : Below w1.heap.size w1 (w1.alloc (.cells #[.string n1, .bool f1, .slice p1 q1 r1, .bool v1, .slice b1 c1 d1] 26)) := (Below.refl _ _).alloc (Nat.le_refl _) _
  have k1 := heap_alloc_new w1 (.cells #[.string n1, .bool f1, .slice p1 q1 r1, .bool v1, .slice b1 c1 d1] 26)
  replace m1 := m1.below hA1
  clear hA1 hB10 hB0
  go_wp2_with fail
  refine (rdef_mv _ l _ (HV.out.below hB1) HL.out).mono ?_
  rw [show Mx.defi l = ra from HRA.out.symm]
  rintro e w2 ⟨n2, f2, p2, q2, r2, v2, b2, c2, d2, rfl, m2, hB20⟩
  replace k1 := (hB20.block _ (lt_of_block k1)).trans k1
  replace m1 := m1.below hB20
  replace hB20 := Below.then hB1 hB20
  have hB2 := hB20.alloc hB20.size (.cells #[.string n2, .bool f2, .slice p2 q2 r2, .bool v2, .slice b2 c2 d2] 26)
  have hA2 : Below w2.heap.size w2 (w2.alloc (.cells #[.string n2, .bool f2, .slice p2 q2 r2, .bool v2, .slice b2 c2 d2] 26)) := (Below.refl _ _).alloc (Nat.le_refl _) _
  replace k1 := (hA2.block _ (lt_of_block k1)).trans k1
  replace m1 := m1.below hA2
  have k2 := heap_alloc_new w2 (.cells #[.string n2, .bool f2, .slice p2 q2 r2, .bool v2, .slice b2 c2 d2] 26)
  replace m2 := m2.below hA2
  clear hA2 hB20 hB1
  obtain ⟨x10, x11, x12, x13, x14⟩ := box_cells k1
  obtain ⟨x20, x21, x22, x23, x24⟩ := box_cells k2
  clear k1 k2
  go_wp2_with fail
  refine (full_any _ _ ra.1 _ m1 m2 HBL.out).mono ?_
  rintro e w3 ⟨rfl, hB3⟩
  have hB := Below.then hB2 hB3
  go_wp2_with fail
  go_ret
  exact ⟨rfl, hB⟩
end Go.Proofs.YtfjbmenakcnadaaDoor

/- What is proved: how a list of tokens that came in is opened, its size and the texts' sizes out of the form's own reach. -/
namespace Go.Proofs.YtfjbmenakcnadaaDoor
open Go.ChangeShapes Go.WideShapes Go.ChangeAt Go.RowKit Go.Deep

section
variable {H : Type} {enc : TypeId × Value → H}
theorem cellsTok : Tryd.prog.cellsOf 39 = 6 := by kernel_rfl
theorem cells4 : Tryd.prog.cellsOf 4 = 1 := by kernel_rfl
theorem cells9 : Tryd.prog.cellsOf 9 = 1 := by kernel_rfl
theorem bytesTok : Tryd.prog.bytesOf 39 = 56 := by kernel_rfl

set_option maxRecDepth 100000 in
theorem open_tok {W : World} {base fuel : Nat} {sp : Nat → Bool} {hd : Bool} {cs : List Value} {x : DataW H × List MemPlace} (h : DataW.trod enc Tryd.prog W base sp hd fuel 39 cs = some x) : ∃ t : K, cs = kCells t ∧ t.text.size ≤ maxLen := by
  obtain ⟨ys, n, _, _, hl, hyl, hf⟩ := DataW.trod_struct Tryd.underlying39 h
  rw [cellsTok] at hl
  match cs, hl with
  | [c0, c1, c2, c3, c4, c5], _ =>
    have get : ∀ (i : Nat), i < ys.length → ∃ y, ys[i]? = some y := fun i hi => ⟨_, List.getElem?_eq_getElem hi⟩
    have e : ys.length = 6 := hyl
    obtain ⟨y0, e0⟩ := get 0 (by omega)
    obtain ⟨y1, e1⟩ := get 1 (by omega)
    obtain ⟨y2, e2⟩ := get 2 (by omega)
    obtain ⟨y3, e3⟩ := get 3 (by omega)
    obtain ⟨y4, e4⟩ := get 4 (by omega)
    obtain ⟨y5, e5⟩ := get 5 (by omega)
    have f0 := (hf 0 _ rfl).trans e0
    have f1 := (hf 1 _ rfl).trans e1
    have f2 := (hf 2 _ rfl).trans e2
    have f3 := (hf 3 _ rfl).trans e3
    have f4 := (hf 4 _ rfl).trans e4
    have f5 := (hf 5 _ rfl).trans e5
    obtain ⟨D, g0, _, _⟩ := DataW.trod_int Tryd.underlying3 f0
    obtain ⟨A, g1, _, hA⟩ := DataW.trod_string Tryd.underlying9 f1
    obtain ⟨Bb, g2, _, _⟩ := DataW.trod_int Tryd.underlying3 f2
    obtain ⟨C, g3, _, _⟩ := DataW.trod_int Tryd.underlying3 f3
    obtain ⟨N, g4, _, _⟩ := DataW.trod_int Tryd.underlying3 f4
    obtain ⟨B5, g5, _⟩ := DataW.trod_bool Tryd.underlying4 f5
    simp [cells3, cells4, cells9] at g0 g1 g2 g3 g4 g5
    exact ⟨⟨D, A, Bb, C, N, B5⟩, by rw [g0, g1, g2, g3, g4, g5]; rfl, hA⟩

set_option maxRecDepth 100000 in
/-- A list of tokens that came in. -/
theorem open_toks {W : World} {r : Reach} {b0 : Nat} {v : Value} {d : DataW H} {ps : List MemPlace} (hv : Value.okWide Tryd.prog W r b0 24 v) (h : DataW.Trod enc Tryd.prog W 0 (fun _ => true) true 24 v d ps)
    (hs : ∀ elems rest, d = .slice elems rest → (elems.length + rest.length) * 56 ≤ 140737488355328) :
    ∃ ts : List K, Ks W v ts ∧ ts.length * 56 ≤ 140737488355328 ∧ ∀ t ∈ ts, t.text.size ≤ maxLen := by
  obtain ⟨Ad, k, cap, rfl⟩ := okWide_slice Tryd.underlying24 hv
  obtain ⟨fuel, h⟩ := h
  rcases open_slice Tryd.underlying24 h with ⟨e, _⟩ | ⟨a, len, cap', m, n, D, Pl, hcs, _, hl, hmx, hm, hd, hx⟩
  · have e' : (Value.slice Ad k cap) = .slice none 0 0 := by simpa [Value.cells] using e
    rw [e']
    exact ⟨[], Ks.none_at _ _ 0 (Nat.zero_le _), by simp, by simp⟩
  · have e' : (Value.slice Ad k cap) = .slice (some a) len cap' := by simpa [Value.cells] using hcs
    injection e' with e1 e2 e3
    subst e1 e2 e3
    have hm' : m = cap := by simpa using hm
    have hall : ∀ i, i < k → ∃ t : K, W.cells? 0 (a.add (i * 6)) 6 = some (kCells t) ∧ t.text.size ≤ maxLen := fun i hi => by
      obtain ⟨cs', hc, ht⟩ := hx i (by omega)
      rw [cellsTok] at hc
      obtain ⟨t, rfl, hsz⟩ := open_tok ht
      exact ⟨t, hc, hsz⟩
    have hd1 : d = .slice ((List.range k).map D) ((List.range (m - k)).map fun j => D (k + j)) := congrArg Prod.fst hd
    have hk56 := hs _ _ hd1
    simp only [List.length_map, List.length_range] at hk56
    obtain ⟨F, hF⟩ := Classical.axiomOfChoice (fun i : Fin k => hall i.1 i.2)
    have hlen : (List.ofFn F).length = k := by simp
    refine ⟨List.ofFn F, ⟨some a, cap, by rw [hlen], by rw [hlen]; exact hl, hmx, fun i t hit => ?_⟩, by rw [hlen]; omega, fun t ht => by obtain ⟨i, rfl⟩ := List.mem_ofFn.1 ht; exact (hF i).2⟩
    have hi : i < k := by have := (List.getElem?_eq_some_iff.1 hit).1; rwa [hlen] at this
    have hFi : F ⟨i, hi⟩ = t := by rw [List.getElem?_ofFn, dif_pos hi] at hit; exact Option.some.inj hit
    have hsp : a = ⟨a.block, a.off, none⟩ := by
      obtain ⟨_, _, hat0⟩ := World.cells?_some (hF ⟨0, by omega⟩).1
      have z := hat0 0 (by omega)
      rw [Go.Deep.add_add] at z
      simp only [Nat.zero_mul, Nat.add_zero, kCells, List.getElem?_cons_zero] at z
      have e : a.add 0 = a := by unfold Addr.add; simp
      rw [e] at z
      exact spot_none z
    obtain ⟨_, _, hat⟩ := World.cells?_some (hF ⟨i, hi⟩).1
    have q0 := hat 0 (by omega)
    have q1 := hat 1 (by omega)
    have q2 := hat 2 (by omega)
    have q3 := hat 3 (by omega)
    have q4 := hat 4 (by omega)
    have q5 := hat 5 (by omega)
    rw [hFi, Go.Deep.add_add] at q0 q1 q2 q3 q4 q5
    simp only [kCells, List.getElem?_cons_zero, List.getElem?_cons_succ] at q0 q1 q2 q3 q4 q5
    generalize a.block = ab at hsp
    generalize a.off = ao at hsp
    subst hsp
    rw [add_none] at q0 q1 q2 q3 q4 q5
    exact ⟨ab, ao, rfl, q0, q1, q2, q3, q4, q5⟩

/-- A law that lists a variable, and that reads one of the library's own: what is laid, and the world's shape, are both at hand. -/
theorem returns_laid_sized {a : Assume} {C : Checked} {os : Os} {f : FuncId} {fn : Func} {s : ChangeSpec} {conds : List PathCond} {apart fresh handsOn again : Bool} {laid : List (String × DataW Unit)}
    (own : ownKnob C.prog.godebug = none) (started : os.Started) (noInit : C.prog.inits.idxOf? f = none) (hfn : C.prog.funcs[f]? = some fn)
    (witness : ∃ (w : World) (tape : Tape) (i : Input), w.os = os ∧ (w.forCall tape i).Shaped C.prog ∧ i.vars = [] ∧ Input.okWide C.prog (w.forCall tape i) .any w.heap.size f i ∧
      ((s.pre enc C.prog fn conds apart (w.forCall tape i).memory i.args ∧ laidMetH C.prog laid (w.forCall tape i).memory) ∧ sizedMet enc C.prog fn (OpenSpec.ofChange s) apart (w.forCall tape i).memory i.args) ∧ a.holds C.prog (lone (Frame.enter C.prog f i.args .normal) [] (w.forCall tape i)))
    (contract : ∀ (W : World) (base : Nat) (args : Array Value) (ds gs : List (DataW H)) (before : List MemPlace),
      (∀ (j : Nat) t v, fn.params[j]? = some t → args[j]? = some v → Value.okWide C.prog W .any base t v) → DataW.Whole enc C.prog fn.params.toList s.vars apart W args.toList ds gs before →
      laidMetH C.prog laid W → W.ShapedOpen C.prog → (DataW.weightsEach C.prog (fn.params.toList ++ (OpenSpec.ofChange s).bare.plain.varTypes C.prog) (ds ++ gs)).all (· ≤ reachBytes) = true → Calls C.prog f args W fun e W' => ∃ v, e = .returned v ∧ s.post enc C.prog fn apart fresh handsOn again W args v W') :
    ReturnsInHanded a C os f .any (fun w args => (s.pre enc C.prog fn conds apart w args ∧ laidMetH C.prog laid w) ∧ sizedMet enc C.prog fn (OpenSpec.ofChange s) apart w args) (s.post enc C.prog fn apart fresh handsOn again) := by
  refine returnsInHanded_of_calls own started noInit witness ?_
  intro w tape i _ hsh _ hok hpre _
  obtain ⟨_, _, _, fn', hfn', _, _, _, _, hval⟩ := hok
  obtain rfl : fn' = fn := Option.some.inj (hfn'.symm.trans hfn)
  obtain ⟨⟨_, hl⟩, _, ds, gs, before, hw, hsz⟩ := hpre
  refine (contract (w.forCall tape i) w.heap.size i.args ds gs before hval (DataW.Whole.of_heap (w' := w.forCall tape i) (by rfl) hw) (hl.of_heap (by rfl)) hsh hsz).mono fun e W' ⟨v, he, hp⟩ => ?_
  subst he
  exact ChangeSpec.post_blind hp
end
end Go.Proofs.YtfjbmenakcnadaaDoor

/- What is proved: what Param tells. -/
namespace Go.Proofs.YtfjbmenakcnadaaDoor
open Go.RowKit Go.Shelf Go.WideMaps

namespace Mx
theorem idxOf_pidx (ps : List ByteArray) (nm : ByteArray) : Go.Lib.idxOfS ps nm = pidx ps nm := by
  have e : ps = ps.take ps.length := by rw [List.take_length]
  cases h : has ps nm with
  | false =>
    rw [pidx_miss h]
    conv => lhs; rw [e]
    refine Go.Lib.idxOfS_miss ps ps.length nm fun j hj he => ?_
    have hm : ps[j]? = some nm := by
      rw [List.getElem?_eq_getElem hj]
      rw [List.getD_eq_getElem?_getD, List.getElem?_eq_getElem hj] at he
      exact congrArg some he
    rw [(has_iff ps nm).2 (List.mem_of_getElem? hm)] at h
    cases h
  | true =>
    obtain ⟨k, hk⟩ := List.mem_iff_getElem?.1 ((has_iff ps nm).1 h)
    have hex : ∃ k, ps[k]? = some nm ∧ has (ps.take k) nm = false := by
      have key : ∀ (n k : Nat), k < n → ps[k]? = some nm → ∃ k, ps[k]? = some nm ∧ has (ps.take k) nm = false := by
        intro n
        induction n with
        | zero => intro k hk; omega
        | succ n ih =>
          intro k hkn hk
          cases hh : has (ps.take k) nm with
          | false => exact ⟨k, hk, hh⟩
          | true =>
            obtain ⟨j, hj⟩ := List.mem_iff_getElem?.1 ((has_iff _ _).1 hh)
            have hjk : j < k := by
              have := (List.getElem?_eq_some_iff.1 hj).1
              rw [List.length_take] at this
              omega
            rw [List.getElem?_take, if_pos hjk] at hj
            exact ih j (by omega) hj
      exact key (k + 1) k (by omega) hk
    obtain ⟨k, hk, hno⟩ := hex
    have hlt := (List.getElem?_eq_some_iff.1 hk).1
    rw [pidx_hit hk hno]
    conv => lhs; rw [e]
    refine Go.Lib.idxOfS_hit ps ps.length k nm hlt (Nat.le_refl _) ?_ ?_
    · rw [List.getD_eq_getElem?_getD, hk]; rfl
    · intro j hj he
      have hj2 : j < ps.length := by omega
      have : has (ps.take k) nm = true := by
        rw [has_iff, List.mem_take_iff_getElem]
        rw [List.getD_eq_getElem?_getD, List.getElem?_eq_getElem hj2] at he
        exact ⟨j, by omega, he⟩
      rw [this] at hno
      cases hno
/-- A parameter's place, as Param tells it. -/
def mpidx (ps : List ByteArray) (va : Bool) (nm : ByteArray) : Int := if 0 ≤ pidx ps nm then pidx ps nm else if va && decide (nm = VA) then ps.length else -1
theorem pidx_low (ps : List ByteArray) (nm : ByteArray) (h : ¬ 0 ≤ pidx ps nm) : pidx ps nm = -1 := pidx_miss ((pidx_neg ps nm).1 (by omega))
theorem mpidx_eq (ps : List ByteArray) (va : Bool) (nm : ByteArray) (h : has ps VA = false) : mpidx ps va nm = rpidx ps va nm := by
  unfold mpidx rpidx
  by_cases hv : (va && decide (nm = VA)) = true
  · rw [if_pos hv, if_pos hv]
    have : nm = VA := by simp at hv; exact hv.2
    rw [this, pidx_miss h]
    rfl
  · rw [if_neg hv, if_neg hv]
    by_cases h0 : 0 ≤ pidx ps nm
    · rw [if_pos h0]
    · rw [if_neg h0, pidx_low ps nm h0]
end Mx

theorem idx_any (v : Value) (ps : List ByteArray) (nm : ByteArray) (w : World) (hv : Sts w v ps) :
    Calls Tryd.prog 39 #[v, .string nm] w fun e w' => e = .returned (.int .i64 (Mx.pidx ps nm)) ∧ w = w' := by
  rcases Nat.eq_zero_or_pos ps.length with h0 | hpos
  · obtain ⟨ad, cap, rfl, -, -, -⟩ := hv
    obtain rfl := List.length_eq_zero_iff.1 h0
    refine (Any.slices_Index_string_empty lays109 ad cap nm w).mono ?_
    rintro e w' ⟨rfl, rfl⟩
    exact ⟨by rw [Mx.idxOf_pidx], rfl⟩
  · obtain ⟨g, o, cap, rfl, h1, h2, -, h3⟩ := hv.cells hpos
    unfold maxLen at h2
    refine (Any.slices_Index_string lays109 g o ps.length cap ps nm w (Nat.le_refl _) (by omega) (fun j hj => by rw [List.getD_eq_getElem?_getD, List.getElem?_eq_getElem hj]; exact h3 j _ (List.getElem?_eq_getElem hj))).mono ?_
    rintro e w' ⟨rfl, rfl⟩
    exact ⟨by rw [List.take_length, Mx.idxOf_pidx], rfl⟩

set_option maxRecDepth 100000 in
set_option maxHeartbeats 2000000 in
theorem mparam_any (nm name : ByteArray) (fn va : Bool) (pv bv : Value) (ps : List ByteArray) (w : World) (hp : Sts w pv ps) (hb : ∃ a m c, bv = .slice a m c) :
    Calls Tryd.prog 17 #[.agg #[.string nm, .bool fn, pv, .bool va, bv], .string name] w fun e w' => e = .returned (.int .i64 (Mx.mpidx ps va name)) ∧ Below w.heap.size w w' := by
  obtain ⟨ba, bm, bc, rfl⟩ := hb
  obtain ⟨ad, cap, rfl, h1, h2, h3⟩ := id hp
  obtain ⟨m, hm⟩ : ∃ m, m = ps.length := ⟨_, rfl⟩
  rw [← hm] at h1 hp ⊢
  have hB : Below w.heap.size w (w.alloc (.cells #[.string nm, .bool fn, .slice ad m cap, .bool va, .slice ba bm bc] 26)) := (Below.refl _ w).alloc (Nat.le_refl _) _
  have HB := Lib.hid hB
  have HP := Lib.hid (hp.below hB)
  have Hm := Lib.hid hm
  obtain ⟨n, hn⟩ : ∃ n, n = Mx.pidx ps name := ⟨_, rfl⟩
  have HN := Lib.hid hn
  clear hp hm h1 h2 h3 hB hn
  by_cases h0 : 0 ≤ n
  · have hr := Lib.hid (show Mx.mpidx ps va name = n by rw [Mx.mpidx, ← HN.out, if_pos h0])
    have hd : decide (0 ≤ n) = true := decide_eq_true h0
    go_enter Tryd.func17, Tryd.ntmps17
    go_wp2_with fail
    refine (idx_any _ ps name _ HP.out).mono ?_
    rintro e w1 ⟨rfl, hW⟩
    subst hW
    rw [← HN.out]
    go_wp2_with fail
    go_ret
    exact ⟨by rw [hr.out]; rfl, HB.out⟩
  · have hd : decide (0 ≤ n) = false := decide_eq_false h0
    have hv : (va = true ∧ (name.toList == [95, 95, 86, 65, 95, 65, 82, 71, 83, 95, 95]) = true ∧ name = Mx.VA) ∨ (name.toList == [95, 95, 86, 65, 95, 65, 82, 71, 83, 95, 95]) = false ∨ ((name.toList == [95, 95, 86, 65, 95, 65, 82, 71, 83, 95, 95]) = true ∧ va = false) := by
      by_cases hn : name = Mx.VA
      · cases va with
        | true => exact .inl ⟨rfl, lit_yes hn, hn⟩
        | false => exact .inr (.inr ⟨lit_yes hn, rfl⟩)
      · exact .inr (.inl (lit_no hn))
    rcases hv with ⟨rfl, t1, hn⟩ | t1 | ⟨t1, rfl⟩
    · have hr := Lib.hid (show Mx.mpidx ps true name = m by rw [Mx.mpidx, ← HN.out, if_neg h0, if_pos (by simp [hn]), Hm.out])
      clear hn
      go_enter Tryd.func17, Tryd.ntmps17
      go_wp2_with fail
      refine (idx_any _ ps name _ HP.out).mono ?_
      rintro e w1 ⟨rfl, hW⟩
      subst hW
      rw [← HN.out]
      go_wp2_with fail
      go_ret
      exact ⟨by rw [hr.out]; rfl, HB.out⟩
    · have hr := Lib.hid (show Mx.mpidx ps va name = -1 by
        have : ¬ name = Mx.VA := fun e => by rw [lit_yes e] at t1; cases t1
        rw [Mx.mpidx, ← HN.out, if_neg h0, if_neg (by simp [this])])
      go_enter Tryd.func17, Tryd.ntmps17
      go_wp2_with fail
      refine (idx_any _ ps name _ HP.out).mono ?_
      rintro e w1 ⟨rfl, hW⟩
      subst hW
      rw [← HN.out]
      go_wp2_with fail
      go_ret
      exact ⟨by rw [hr.out]; rfl, HB.out⟩
    · have hr := Lib.hid (show Mx.mpidx ps false name = -1 by rw [Mx.mpidx, ← HN.out, if_neg h0, if_neg (by simp)])
      go_enter Tryd.func17, Tryd.ntmps17
      go_wp2_with fail
      refine (idx_any _ ps name _ HP.out).mono ?_
      rintro e w1 ⟨rfl, hW⟩
      subst hW
      rw [← HN.out]
      go_wp2_with fail
      go_ret
      exact ⟨by rw [hr.out]; rfl, HB.out⟩
end Go.Proofs.YtfjbmenakcnadaaDoor

/- What is proved: what listed, Concat and Print tell. -/
namespace Go.Proofs.YtfjbmenakcnadaaDoor
open Go.RowKit Go.Shelf Go.WideMaps

set_option maxRecDepth 100000 in
set_option maxHeartbeats 2000000 in
/-- Grow of no slice. -/
theorem grow_any (n : Nat) (hn : n ≤ 1000000000) (w : World) :
    Calls Tryd.prog 78 #[.slice none 0 0, .int .i64 n] w fun e w' => ∃ a c, e = .returned (.slice a 0 c) ∧ w'.ownsRow w.heap.size 9 1 (.slice a 0 c) 0 [] ∧ Below w.heap.size w w' := by
  obtain ⟨i0, hi, hz0, hz1, hz2⟩ := info_parts infoStr
  by_cases h0 : n = 0
  · subst h0
    go_enter Tryd.func78, Tryd.ntmps78
    go_wp2_with fail
    go_ret
    exact ⟨none, 0, rfl, World.ownsRow_nil _ _ _ _, Below.refl _ _⟩
  · have y1 : (0 : Int) < n := by omega
    have y2 : ¬ (n : Int) < 0 := by omega
    have b9 : Tryd.t9.bytes = 16 := by kernel_rfl
    have z1 : ¬ 281474976710656 < Builtin.nextslicecap n 0 * Tryd.t9.bytes := by
      rw [b9]; unfold Builtin.nextslicecap; rw [if_pos (by omega)]; omega
    have z2 : (n : Int) * (Tryd.t9.bytes : Int) ≤ 281474976710656 := by rw [b9]; omega
    have z3 : (n : Int) ≤ 9223372036854775807 := by omega
    have z4 : 0 < n := by omega
    clear b9 h0
    go_enter Tryd.func78, Tryd.ntmps78
    go_wp2_with fail
    go_ret
    have hge := grownCap_ge w n 0 9
    have hle := grownCap_le_maxLen w n 0 9 (by unfold maxLen; omega)
    unfold grownCap at hge hle
    refine ⟨_, _, rfl, ⟨rfl, .inr ⟨w.heap.size, _, _, rfl, Nat.le_refl _, heap_alloc_new w _, Nat.zero_le _, hle, ?_, rfl⟩⟩, below_drewN ((Below.refl _ w).alloc (Nat.le_refl _) _) 1⟩
    simp [Builtin.zeroCells]
    omega

/-- Texts in memory, no slice or one with an address. -/
def StsA (W : World) (v : Value) (l : List ByteArray) : Prop := Sts W v l ∧ ((v = .slice none 0 0 ∧ l = []) ∨ ∃ a n c, v = .slice (some a) n c)
theorem StsA.below {W W' : World} {v : Value} {l : List ByteArray} (h : StsA W v l) (hb : Below W.heap.size W W') : StsA W' v l := ⟨h.1.below hb, h.2⟩
theorem StsA.of_row {W : World} {base n : Nat} {v : Value} {l : List ByteArray} (h : W.ownsRow base 9 1 v n (strCells l)) : StsA W v l := by
  refine ⟨Sts.of_row h, ?_⟩
  rcases h.2 with ⟨rfl, h0⟩ | ⟨g, cap, cur, rfl, _⟩
  · have := h.1
    rw [strCells_length, h0] at this
    exact .inl ⟨rfl, List.length_eq_zero_iff.1 (by omega)⟩
  · exact .inr ⟨_, _, _, rfl⟩
set_option maxRecDepth 100000 in
theorem wpList_append_strs {w : World} {ops : Array Oper} {rest : List Oper} {o : Oper} {a : Act} {Q : Exit → Act → World → Prop} (hgd : o.guard = none) (s x : Operand)
    (ho : o.op = .call { callee := .builtin .append, args := #[s, x], argTypes := #[23, 23] }) (base : Nat) (v : Value) (n : Nat) (l : List ByteArray) (hs : a.eval s = v) (hown : w.ownsRow base 9 1 v n (strCells l))
    (u : Value) (l2 : List ByteArray) (hx : a.eval x = u) (hu : StsA w u l2) (hn : n + l2.length ≤ 2000000000) (hbase : base ≤ w.heap.size)
    (h : ∀ v' w', w'.ownsRow base 9 1 v' (n + l2.length) (strCells (l ++ l2)) → w.grownBy w' v.ownBlock → wpList Tryd.prog ops Q rest (a.put o.dst v') w') : wpList Tryd.prog ops Q (o :: rest) a w := by
  obtain ⟨i0, hi, hz0, hz1, hz2⟩ := info_parts infoStr
  obtain ⟨hI, hc⟩ := hu
  rcases hc with ⟨rfl, rfl⟩ | ⟨ad, m, c, rfl⟩
  · refine wpList_append_own_none hgd s x 23 ho base 9 i0 1 Tryd.underlying23 hi v n (strCells l) hs hown hx (h v w ?_ ⟨rfl, rfl, rfl, Nat.le_refl _, fun _ _ _ => rfl⟩)
    rw [List.append_nil]; exact hown
  · obtain ⟨ad', c', e, h1, h2, h3⟩ := hI
    injection e with e1 e2 e3
    subst e1 e2 e3
    refine wpList_append_own_at w hgd s x 23 ho base 9 i0 (.string ByteArray.empty) 1 16 Tryd.underlying23 hi hz0 hz1 hz2 rfl (by decide) v n (strCells l) hs hown ad l2.length c (strCells l2) hx (by rw [strCells_length, Nat.mul_one]) ?_ (strCells_one _) (by unfold maxLen; omega) (by omega) hbase ?_
    · intro j q hj
      have hlt : j < l2.length := by have := (List.getElem?_eq_some_iff.1 hj).1; rwa [strCells_length] at this
      obtain ⟨g, o, e, hcell⟩ := h3 j _ (List.getElem?_eq_getElem hlt)
      injection e with e
      subst e
      rw [add_none]
      rw [hcell]
      rw [strCells_get (List.getElem?_eq_getElem hlt)] at hj
      exact hj
    · intro v' w' hr hg _ _
      rw [← strCells_append] at hr
      exact h v' w' hr hg

set_option maxRecDepth 100000 in
set_option maxHeartbeats 2000000 in
/-- Concat of two slices of texts. -/
theorem concat_any (g : Nat) (v u : Value) (ps qs : List ByteArray) (w : World) (hg : g < w.heap.size) (hv : StsA w v ps) (hu : StsA w u qs) (hl : ps.length + qs.length ≤ 1000000000)
    (c0 : w.cell? ⟨g, 0, none⟩ = some v) (c1 : w.cell? ⟨g, 1, none⟩ = some u) :
    Calls Tryd.prog 58 #[.slice (some ⟨g, 0, none⟩) 2 2] w fun e w' => ∃ r, e = .returned r ∧ w'.ownsRow w.heap.size 9 1 r (ps ++ qs).length (strCells (ps ++ qs)) ∧ Below w.heap.size w w' := by
  obtain ⟨i0, hi, hz0, hz1, hz2⟩ := info_parts infoStr
  obtain ⟨ad, cap, rfl, h1, h2, h3⟩ := id hv.1
  obtain ⟨ad', cap', rfl, h1', h2', h3'⟩ := id hu.1
  obtain ⟨n, hn⟩ : ∃ n, n = ps.length := ⟨_, rfl⟩
  obtain ⟨m, hm⟩ : ∃ m, m = qs.length := ⟨_, rfl⟩
  rw [← hn] at h1 hl hv c0
  rw [← hm] at h1' hl hu c1
  have HN := Lib.hid hn
  have HM := Lib.hid hm
  have HV := Lib.hid hv
  have HU := Lib.hid hu
  clear hn hm hv hu h3 h3'
  unfold maxLen at h2 h2'
  go_enter Tryd.func58, Tryd.ntmps58
  go_wp2_with fail
  go_loop [3, 11] (fun t k => (t = .int .i64 0 ∧ k = .int .i64 0) ∨ (t = .int .i64 n ∧ k = .int .i64 1) ∨ (t = .int .i64 ((n + m : Nat) : Int) ∧ k = .int .i64 2)) (fun _ k => 2 - (intOf k).toNat)
  case atStart => exact .inl ⟨rfl, rfl⟩
  case round =>
    have y1 : ((n + m : Nat) : Int) = (n : Int) + m := by omega
    have HY := Lib.hid y1
    clear y1
    rcases hrel with ⟨rfl, rfl⟩ | ⟨rfl, rfl⟩ | ⟨rfl, rfl⟩
    · go_wp2_with fail
      go_round
      case rel => exact .inr (.inl ⟨by go_num, rfl⟩)
      case measure => simp [intOf]
    · go_wp2_with fail
      go_round
      case rel => exact .inr (.inr ⟨by rw [HY.out], rfl⟩)
      case measure => simp [intOf]
    · go_wp2_with fail
      refine (grow_any (n + m) (by omega) _).mono ?_
      rintro e w1 ⟨ra, rc, rfl, hr1, hB1⟩
      have HV1 := Lib.hid (HV.out.below hB1)
      have HU1 := Lib.hid (HU.out.below hB1)
      have d0 : w1.cell? ⟨g, 0, none⟩ = some (.slice ad n cap) := (hB1.cell (p := ⟨g, 0, none⟩) hg).trans c0
      have d1 : w1.cell? ⟨g, 1, none⟩ = some (.slice ad' m cap') := (hB1.cell (p := ⟨g, 1, none⟩) hg).trans c1
      have HR1 := Lib.hid hr1
      have HB1 := Lib.hid hB1
      have HC1 := Lib.hid c1
      clear hr1 hB1 c0 c1
      go_wp2_with fail
      go_loopw [6, 27] (fun r k wx => ((k = .int .i64 0 ∧ r = .slice ra 0 rc ∧ wx = w1) ∨ (k = .int .i64 1 ∧ wx.ownsRow w.heap.size 9 1 r ps.length (strCells ps) ∧ Below w.heap.size w wx) ∨ (k = .int .i64 2 ∧ wx.ownsRow w.heap.size 9 1 r (ps ++ qs).length (strCells (ps ++ qs)) ∧ Below w.heap.size w wx))) (fun _ k _ => 2 - (intOf k).toNat)
      case atStart => exact .inl ⟨rfl, rfl, rfl⟩
      case round =>
        rcases hrel with ⟨rfl, rfl, rfl⟩ | ⟨rfl, hr, hB⟩ | ⟨rfl, hr, hB⟩
        · go_wp2_with (at_builtin; refine wpList_append_strs rfl _ _ rfl w.heap.size (.slice ra 0 rc) 0 [] rfl HR1.out (.slice ad n cap) ps rfl HV1.out (by rw [← HN.out]; omega) HB1.out.size ?_; intro x4 w4 hr4 hg4; have hB4 := HB1.out.grown hg4 HB1.out.size (fun k e => (HR1.out.lt k e).1); rw [List.nil_append, Nat.zero_add] at hr4; have HR4 := Lib.hid hr4; clear hr4 hg4)
          go_roundw
          case rel => exact .inr (.inl ⟨by go_num, HR4.out, hB4⟩)
          case measure => simp [intOf]
        · obtain ⟨xa, xn, xc, rfl⟩ := row_slice hr
          rw [← HN.out] at hr
          have hxn := row_len hr
          subst hxn
          have e1 : wr.cell? ⟨g, 1, none⟩ = some (.slice ad' m cap') := (hB.cell (p := ⟨g, 1, none⟩) hg).trans HC1.out
          have HU2 := Lib.hid (HU.out.below hB)
          have HR := Lib.hid hr
          have HB := Lib.hid hB
          clear hr hB
          go_wp2_with (at_builtin; refine wpList_append_strs rfl _ _ rfl w.heap.size _ _ ps rfl HR.out (.slice ad' m cap') qs rfl HU2.out (by rw [← HM.out]; omega) HB.out.size ?_; intro x4 w4 hr4 hg4; have hB4 := HB.out.grown hg4 HB.out.size (fun k e => (HR.out.lt k e).1); rw [show ∀ q : Nat, q = ps.length → q + qs.length = (ps ++ qs).length from fun q e => by rw [e, List.length_append]] at hr4; rotate_left; exact HN.out; have HR4 := Lib.hid hr4; clear hr4 hg4)
          go_roundw
          case rel => exact .inr (.inr ⟨by go_num, HR4.out, hB4⟩)
          case measure => simp [intOf]
        · go_wp2_with fail
          go_ret
          exact ⟨_, rfl, hr, hB⟩
end Go.Proofs.YtfjbmenakcnadaaDoor

/- What is proved: what listed and Print tell. -/
namespace Go.Proofs.YtfjbmenakcnadaaDoor
open Go.RowKit Go.Shelf Go.WideMaps

def withDots (ps : List ByteArray) (va : Bool) : List ByteArray := if va then ps ++ [Mx.EL] else ps

set_option maxRecDepth 100000 in
set_option maxHeartbeats 2000000 in
theorem listed_any (nm : ByteArray) (fn va : Bool) (pv bv : Value) (ps : List ByteArray) (w : World) (hp : StsA w pv ps) (hl : ps.length ≤ 900000000) (hb : ∃ a m c, bv = .slice a m c) :
    Calls Tryd.prog 36 #[.agg #[.string nm, .bool fn, pv, .bool va, bv]] w fun e w' => ∃ r, e = .returned r ∧ StsA w' r (withDots ps va) ∧ Below w.heap.size w w' := by
  obtain ⟨ba, bm, bc, rfl⟩ := hb
  obtain ⟨ad, cap, rfl, h1, h2, h3⟩ := id hp.1
  obtain ⟨m, hm⟩ : ∃ m, m = ps.length := ⟨_, rfl⟩
  rw [← hm] at h1 hp ⊢
  have HL := Lib.hid hl
  have Hm := Lib.hid hm
  have hB : Below w.heap.size w (w.alloc (.cells #[.string nm, .bool fn, .slice ad m cap, .bool va, .slice ba bm bc] 26)) := (Below.refl _ w).alloc (Nat.le_refl _) _
  have HP := Lib.hid hp
  have HB := Lib.hid hB
  clear hm hl h1 h2 h3 hB hp
  cases va
  · go_enter Tryd.func36, Tryd.ntmps36
    go_wp2_with fail
    go_ret
    exact ⟨_, rfl, HP.out.below HB.out, HB.out⟩
  · go_enter Tryd.func36, Tryd.ntmps36
    go_wp2_with fail
    have hB2 : Below w.heap.size w (((w.alloc (.cells #[.string nm, .bool fn, .slice ad m cap, .bool true, .slice ba bm bc] 26)).alloc (.cells #[.string ⟨#[46, 46, 46]⟩] 9)).alloc (.cells #[.slice ad m cap, .slice (some ⟨w.heap.size + 1, 0, none⟩) 1 1] 23)) := (HB.out.alloc (by simp) _).alloc (by simp; omega) _
    have e1 := heap_alloc_new (w.alloc (.cells #[.string nm, .bool fn, .slice ad m cap, .bool true, .slice ba bm bc] 26)) (.cells #[.string ⟨#[46, 46, 46]⟩] 9)
    have e2 := heap_alloc_new ((w.alloc (.cells #[.string nm, .bool fn, .slice ad m cap, .bool true, .slice ba bm bc] 26)).alloc (.cells #[.string ⟨#[46, 46, 46]⟩] 9)) (.cells #[.slice ad m cap, .slice (some ⟨w.heap.size + 1, 0, none⟩) 1 1] 23)
    replace e1 := (Below.heap_alloc _ (.cells #[.slice ad m cap, .slice (some ⟨w.heap.size + 1, 0, none⟩) 1 1] 23) _ (lt_of_block e1)).trans e1
    simp only [World.size_alloc] at e1 e2
    generalize (((w.alloc (.cells #[.string nm, .bool fn, .slice ad m cap, .bool true, .slice ba bm bc] 26)).alloc (.cells #[.string ⟨#[46, 46, 46]⟩] 9)).alloc (.cells #[.slice ad m cap, .slice (some ⟨w.heap.size + 1, 0, none⟩) 1 1] 23)) = W2 at hB2 e1 e2 ⊢
    have hu : StsA W2 (.slice (some ⟨w.heap.size + 1, 0, none⟩) 1 1) [Mx.EL] := by
      refine ⟨⟨_, 1, rfl, Nat.le_refl _, by unfold maxLen; omega, fun i x hx => ?_⟩, .inr ⟨_, _, _, rfl⟩⟩
      cases i with
      | zero =>
        simp only [List.getElem?_cons_zero, Option.some.injEq] at hx
        subst hx
        exact ⟨_, _, rfl, (Lib.cell_of_heap e1 0).trans rfl⟩
      | succ i => simp at hx
    refine (concat_any (w.heap.size + 1 + 1) _ _ ps [Mx.EL] W2 (lt_of_block e2) (HP.out.below hB2) hu (by have := HL.out; simp only [List.length_cons, List.length_nil]; omega) ((Lib.cell_of_heap e2 0).trans rfl) ((Lib.cell_of_heap e2 1).trans rfl)).mono ?_
    rintro e w1 ⟨r, rfl, hr, hB1⟩
    go_wp2_with fail
    go_ret
    exact ⟨r, rfl, StsA.of_row hr, Below.then hB2 hB1⟩

/-- Join of texts, with a comma and a blank between. -/
theorem joinS_any (v : Value) (ps : List ByteArray) (w : World) (hv : StsA w v ps) (hl : ps.length ≤ 1000000000) (hj : (Go.Lib.join (ps.map (·.data.toList)) [44, 32]).length ≤ 1000000000) :
    Calls Tryd.prog 35 #[v, .string ⟨#[44, 32]⟩] w fun e w' => e = .returned (.string ⟨(Go.Lib.join (ps.map (·.data.toList)) [44, 32]).toArray⟩) ∧ Below w.heap.size w w' := by
  rcases Nat.eq_zero_or_pos ps.length with h0 | hpos
  · obtain rfl := List.length_eq_zero_iff.1 h0
    obtain ⟨ad, cap, rfl, -⟩ := hv.1
    refine (Any.strings_Join_none lays156 bextra156 ad cap ⟨#[44, 32]⟩ w).mono ?_
    rintro e w' ⟨rfl, rfl⟩
    exact ⟨rfl, Below.refl _ _⟩
  · obtain ⟨g, o, cap, rfl, h1, h2, h4, h3⟩ := hv.1.cells hpos
    exact Any.strings_Join lays156 bextra156 g o cap ps ⟨#[44, 32]⟩ w (fun j x hx => h3 j x hx) h4 (by omega) h1 (Nat.le_trans hj (by omega))

theorem add_ba (a b c : ByteArray) (h : a.size + b.size ≤ 100000000000) (hc : c.data.toList = a.data.toList ++ b.data.toList) (w : World) : (Op.stringOp .add a b).run Tryd.prog w = .ok (.string c) w := by
  have e : c = a ++ b := by
    rw [← Go.Lib.mk_data a, ← Go.Lib.mk_data b, ByteArray.mk_append_mk, ← hc, Go.Lib.mk_data]
  rw [run_string_add_sum w _ _ (by omega), e]
theorem Ks.toks {W : World} {v : Value} {f : Int} {ts : List Lx.T} (h : Ks W v (ts.map (ofT f))) : Toks W v f ts := by
  obtain ⟨ad, cap, rfl, h1, h2, h3⟩ := h
  rw [List.length_map] at h1
  refine ⟨ad, cap, by rw [List.length_map], h1, h2, fun i t ht => ?_⟩
  exact h3 i (ofT f t) (by rw [List.getElem?_map, ht]; rfl)
/-- A macro that can be read, its parameters no slice or one with an address. -/
def MA (W : World) (v : Value) (m : Mx.M) : Prop :=
  ∃ pv bv, v = .agg #[.string m.name, .bool m.fn, pv, .bool m.va, bv] ∧ StsA W pv m.ps ∧ Ks W bv m.body
theorem Mac.ma {W : World} {base : Nat} {v : Value} {m : Mx.M} (h : Mac W base v m) : MA W v m := by
  obtain ⟨pv, bv, rfl, h1, h2⟩ := h
  exact ⟨pv, bv, rfl, StsA.of_row h1, Ks.of_row h2⟩
theorem MA.below {W W' : World} {v : Value} {m : Mx.M} (h : MA W v m) (hb : Below W.heap.size W W') : MA W' v m := by
  obtain ⟨pv, bv, rfl, h1, h2⟩ := h
  exact ⟨pv, bv, rfl, h1.below hb, h2.below hb⟩
theorem MA.mv {W : World} {v : Value} {m : Mx.M} (h : MA W v m) : MV W v m := by
  obtain ⟨pv, bv, rfl, h1, h2⟩ := h
  exact ⟨pv, bv, rfl, h1.1, h2⟩

namespace Mx
/-- What is printed of a body. -/
def bdL (b : List K) : List UInt8 := if b = [] then [] else 32 :: Lx.prA ((bare b).map klA)
def bareT (ts : List Lx.T) : List Lx.T := match ts with | [] => [] | t :: r => { t with bl := false } :: r
theorem bare_ofT (f : Int) (ts : List Lx.T) : bare (ts.map (ofT f)) = (bareT ts).map (ofT f) := by cases ts <;> rfl
theorem klA_ofT (f : Int) (ts : List Lx.T) : (ts.map (ofT f)).map klA = ts.map Lx.al := by
  rw [List.map_map]
  refine List.map_congr_left fun t _ => ?_
  simp [klA, ofT, Lx.al]
theorem bdL_ofT (f : Int) (ts : List Lx.T) (h : ts ≠ []) : bdL (ts.map (ofT f)) = 32 :: Lx.pr (bareT ts) := by
  unfold bdL
  rw [if_neg (by simpa using h), bare_ofT, klA_ofT]
  rfl
end Mx

noncomputable def printBody : Code := Tryd.f16.body.getD .skip
set_option maxRecDepth 100000 in
set_option maxHeartbeats 2000000 in
theorem print_tail (w W : World) (B : Nat) (out nm : ByteArray) (fn va : Bool) (pv bv : Value) (ts : List Lx.T) (res : ByteArray) (hbox : W.heap[B]? = some (.cells #[.string nm, .bool fn, pv, .bool va, bv] 26 (0, 0)))
    (hks : Ks W bv (ts.map (ofT 0))) (hB : Below w.heap.size w W) (hres : res.data.toList = out.data.toList ++ Mx.bdL (ts.map (ofT 0))) (hl : res.size ≤ 1000000000) (htl : ts.length ≤ 1000000000)
    (c0 c2 c4 c5 c6 c7 c8 c9 c10 c11 c12 c13 c14 c15 c16 c17 c18 c19 c20 c21 c22 c23 c24 c25 c26 : Value) :
    Code.wp Tryd.prog (secs 3 printBody) (bodyPost Tryd.prog Tryd.f16 (fun e w' => e = .returned (.string res) ∧ Below w.heap.size w w')) ⟨#[c0, .pointer (some ⟨B, 0, none⟩), c2, .string out, c4, c5, c6, c7, c8, c9, c10, c11, c12, c13, c14, c15, c16, c17, c18, c19, c20, c21, c22, c23, c24, c25, c26], []⟩ W := by
  have HBOX := Lib.hid hbox
  have HKS := Lib.hid hks
  have HRES := Lib.hid hres
  have HB := Lib.hid hB
  obtain ⟨ad, cap, rfl, h1, h2, -⟩ := id hks
  rw [List.length_map] at h1
  obtain ⟨n, hn⟩ : ∃ n, n = ts.length := ⟨_, rfl⟩
  have e4 : W.cell? ⟨B, 4, none⟩ = some (.slice ad n cap) := by rw [hn]; exact ((Lib.cell_of_heap hbox 4).trans (by rw [List.length_map]; rfl))
  have HN := Lib.hid hn
  have HL := Lib.hid hl
  clear hbox hks hres hB hn hl
  by_cases h0 : n = 0
  · obtain rfl : ts = [] := List.length_eq_zero_iff.1 (by rw [← HN.out, h0])
    have y1 : ¬ (0 : Int) < n := by omega
    have he := Lib.hid (show res = out by
      have := HRES.out
      simp only [List.map_nil, Mx.bdL, if_true, List.append_nil] at this
      rw [← Go.Lib.mk_data res, this, Go.Lib.mk_data])
    clear h0
    conv => arg 2; whnf
    go_wp2_with fail
    go_ret
    exact ⟨by rw [he.out]; rfl, HB.out⟩
  · have y1 : (0 : Int) < n := by omega
    have HNE := Lib.hid (show ts ≠ [] from fun e => h0 (by rw [HN.out, e]; rfl))
    obtain ⟨P, hP⟩ : ∃ P, P = Lx.pr (Mx.bareT ts) := ⟨_, rfl⟩
    have hres2 : res.data.toList = out.data.toList ++ 32 :: P := by rw [HRES.out, Mx.bdL_ofT 0 ts HNE.out, hP]
    have hsz : res.size = out.size + 1 + P.length := by
      have := congrArg List.length hres2
      simp only [List.length_append, List.length_cons, size_list] at this
      omega
    have hPl := Lib.hid (show P.length ≤ 1000000000 by have := HL.out; omega)
    have had1 : ∀ W, (Op.stringOp .add ⟨#[32]⟩ ⟨P.toArray⟩).run Tryd.prog W = .ok (.string ⟨(32 :: P).toArray⟩) W := fun W => add_ba _ _ _ (by have := HL.out; show 1 + P.toArray.size ≤ _; simp; omega) (by simp) W
    have had2 : ∀ W, (Op.stringOp .add out ⟨(32 :: P).toArray⟩).run Tryd.prog W = .ok (.string res) W := fun W => add_ba _ _ _ (by have := HL.out; show out.size + (32 :: P).toArray.size ≤ _; simp; omega) (by rw [hres2]) W
    have HP := Lib.hid hP
    clear hP hres2 hsz h0
    conv => arg 2; whnf
    go_wp2_with fail
    refine (bare_any _ (ts.map (ofT 0)) _ (by have := HKS.out; rwa [List.length_map, ← HN.out] at this) (by rw [List.length_map]; omega)).mono ?_
    rintro e W1 ⟨u, rfl, hown, hB1⟩
    have hk1 : Ks W1 u (Mx.bare (ts.map (ofT 0))) := Ks.of_row (by rw [bare_len]; exact hown)
    rw [Mx.bare_ofT] at hk1
    have htk := hk1.toks
    have hB2 := Below.then HB.out hB1
    clear hown hk1 hB1
    go_wp2_with fail
    refine (print_any _ 0 (Mx.bareT ts) _ htk (by have : (Mx.bareT ts).length = ts.length := by cases ts <;> rfl
                                                  omega) (by rw [← HP.out]; exact hPl.out)).mono ?_
    rw [← HP.out]
    rintro e W2 ⟨rfl, hB3⟩
    have hB4 := Below.then hB2 hB3
    go_wp2_with fail
    go_ret
    exact ⟨rfl, hB4⟩

end Go.Proofs.YtfjbmenakcnadaaDoor

/- What is proved: what was defined, printed, is defined again; names in brackets are told (plain, of whole texts). -/
namespace Go.Proofs.YtfjbmenakcnadaaDoor
namespace Mx
open Lx (tb prA joinB interB ItemB Word Stop)

def itemsB (ps : List ByteArray) (va : Bool) : List (Nat × List UInt8) := ps.map (fun p => (1, p.data.toList)) ++ if va then [(5, [46, 46, 46])] else []
theorem itemsB_snd (ps : List ByteArray) (va : Bool) : (itemsB ps va).map Prod.snd = itemsT ps va := by
  cases va <;> simp [itemsB, itemsT]
def kc (x : Nat × List UInt8) : Int × ByteArray := ((x.1 : Int), (⟨x.2.toArray⟩ : ByteArray))
theorem interB_kc : ∀ (es : List (Nat × List UInt8)), (interB es).map kc = interK (es.map kc)
  | [] => rfl
  | [e] => rfl
  | e :: e' :: r => by
    have := interB_kc (e' :: r)
    simp only [interB, List.map_cons, interK] at this ⊢
    rw [this]
    rfl
theorem itemsB_kc (ps : List ByteArray) (va : Bool) : (itemsB ps va).map kc = itemsK ps va := by
  cases va <;> simp [itemsB, itemsK, kc, EL]
theorem itemsB_ok {ps : List ByteArray} {va : Bool} (h : ∀ p ∈ ps, Word p.data.toList) : ∀ e ∈ itemsB ps va, ItemB e := by
  intro e he
  rcases List.mem_append.1 he with he | he
  · obtain ⟨p, hp, rfl⟩ := List.mem_map.1 he
    exact .inl ⟨rfl, h p hp⟩
  · cases va with
    | false => simp at he
    | true => simp only [if_true, List.mem_singleton] at he; exact .inr he
theorem cv_kt {l : List K} {pre : List (Nat × List UInt8 × Bool)} {es : List (Nat × List UInt8)} (h : l.map kal = pre.map cv) (hp : pre.map Lx.kt = interB es) : l.map ktK = interK (es.map kc) := by
  have e : l.map ktK = (l.map kal).map fun z => (z.1, z.2.1) := by rw [List.map_map]; rfl
  rw [e, h, List.map_map, ← interB_kc, ← hp, List.map_map]
  rfl
theorem bare_setB {b b' : List K} {bb : List (Nat × List UInt8 × Bool)} (h : b.map kal = bb.map cv) (h' : b'.map kal = (setB bb).map cv) : (bare b).map kal = (bare b').map kal := by
  rcases bb with _ | ⟨⟨k, t, q⟩, r⟩
  · rw [List.map_eq_nil_iff.1 h, List.map_eq_nil_iff.1 h']
  · obtain ⟨x, l, rfl, h1, h2⟩ := List.map_eq_cons_iff.1 h
    obtain ⟨x', l', rfl, h3, h4⟩ := List.map_eq_cons_iff.1 h'
    simp only [cv, kal, Prod.mk.injEq] at h1 h3
    show kal _ :: l.map kal = kal _ :: l'.map kal
    rw [h2, h4]
    simp only [kal, h1, h3]

theorem word_good {w : List UInt8} (h : Word w) : ∀ c ∈ w, c ≠ 10 ∧ c ≠ 92 := by
  obtain ⟨_, _, _, _, h4⟩ := h
  exact fun c hc => ⟨(Lx.alnum_good c (h4 c hc)).1, (Lx.alnum_good c (h4 c hc)).2.1⟩
theorem items_good {ps : List ByteArray} {va : Bool} (h : ∀ p ∈ ps, Word p.data.toList) : ∀ w ∈ itemsT ps va, ∀ c ∈ w, c ≠ 10 ∧ c ≠ 92 := by
  intro w hw
  rcases List.mem_append.1 hw with hw | hw
  · obtain ⟨p, hp, rfl⟩ := List.mem_map.1 hw
    exact word_good (h p hp)
  · cases va with
    | false => simp at hw
    | true => simp only [if_true, List.mem_singleton] at hw; subst hw; decide
/-- The tokens of a text that has no pair. -/
theorem ks_text {y : ByteArray} {Y : List UInt8} (hy : y.data.toList = Y) (hn : ¬ Lx.adj Y) : (ks y).map kal = (tb false Y).map cv := by
  rw [ks_kal, hy, Lx.left_noadj _ hn]
  rfl

/-- What was defined, printed, is defined again. -/
theorem df_back (s y : ByteArray) (h0 : (df s).2 = 0) (hk : ∀ t ∈ (df s).1.body, t.kind ≠ 6) (hy : y.data.toList = prtL (df s).1) : (df y).2 = 0 ∧ same (df s).1 (df y).1 = true := by
  obtain ⟨t, r, fn, ps, va, b, hl, hn, hbr, hd⟩ := defi_out h0
  have hm : (df s).1 = ⟨t.text, fn, ps, va, bare b⟩ := by
    show (defi (ks s)).1 = _
    rw [hd]
    exact bodyOf_ok (by rw [← hd]; exact h0)
  obtain ⟨hok, hps, hplain⟩ := brack_out hbr
  obtain ⟨pre0, hsuf⟩ := brack_suffix hbr
  -- the text's tokens
  obtain ⟨U, hU⟩ : ∃ U, U = Lx.bytes (Sp.left 0 s.data.toList) := ⟨_, rfl⟩
  have hks : (ks s).map kal = (tb false U).map cv := by rw [ks_kal, ← hU]; rfl
  rw [hl] at hks
  obtain ⟨x, B', hB, hx, hB'⟩ := List.map_eq_cons_iff.1 hks.symm
  have hmem : ∀ z ∈ tb false U, z.1 = 1 → Word z.2.1 := Lx.kind_word false U
  have hnameOk := hn
  simp only [nameOk, Bool.and_eq_true, beq_iff_eq] at hn
  obtain ⟨hk1, hnn⟩ := hn
  have hx' : (x.1 : Int) = t.kind ∧ (⟨x.2.1.toArray⟩ : ByteArray) = t.text ∧ x.2.2 = t.bl := by
    simpa [cv, kal] using hx
  have hname : Word t.text.data.toList := by
    have := hmem x (by rw [hB]; simp) (by have := hx'.1; omega)
    rw [← hx'.2.1]
    simpa using this
  have hwords : ∀ p ∈ ps, Word p.data.toList := by
    intro p hp
    obtain ⟨t', ht', h1, h2⟩ := hps p hp
    have : kal t' ∈ B'.map cv := by rw [hB']; exact List.mem_map.2 ⟨t', ht', rfl⟩
    obtain ⟨z, hz, hzk⟩ := List.mem_map.1 this
    have hz' : (z.1 : Int) = t'.kind ∧ (⟨z.2.1.toArray⟩ : ByteArray) = t'.text ∧ z.2.2 = t'.bl := by simpa [cv, kal] using hzk
    have hw := hmem z (by rw [hB]; exact List.mem_cons_of_mem _ hz) (by have := hz'.1; omega)
    rw [← h2, ← hz'.2.1]
    simpa using hw
  -- the body's tokens
  rw [← hsuf, List.map_append] at hB'
  obtain ⟨B1, bb, hB1, -, hbb⟩ := List.map_eq_append_iff.1 hB'
  obtain ⟨p', u', hsub⟩ := Lx.tb_suffix false U (x :: B1) bb (by rw [hB, hB1]; rfl)
  have hbody : (bare b).map klA = Lx.bareA bb := by rw [bare_klA, klA_of hbb.symm]
  have hno6 : ∀ z ∈ bb, z.1 ≠ 6 := by
    intro z hz h6
    have : cv z ∈ b.map kal := by rw [← hbb]; exact List.mem_map.2 ⟨z, hz, rfl⟩
    obtain ⟨q, hq, hqk⟩ := List.mem_map.1 this
    have hqk' : q.kind = z.1 := by
      have := congrArg Prod.fst hqk
      simpa [cv, kal] using this
    have hin : ∃ q' ∈ bare b, q'.kind = q.kind := by
      rcases b with _ | ⟨b0, b1⟩
      · simp at hq
      · rcases List.mem_cons.1 hq with rfl | hq
        · exact ⟨_, List.mem_cons_self, rfl⟩
        · exact ⟨q, List.mem_cons_of_mem _ hq, rfl⟩
    obtain ⟨q', hq', hqq⟩ := hin
    exact hk q' (by rw [hm]; exact hq') (by rw [hqq, hqk', h6]; rfl)
  have hgood : ∀ z ∈ Lx.bareA bb, Lx.Good z.2.1 := by
    have hg := Lx.tb_good p' u' (by rw [← hsub]; exact hno6)
    rw [← hsub] at hg
    rcases bb with _ | ⟨⟨k, w, q⟩, r1⟩
    · intro z hz; simp [Lx.bareA] at hz
    · intro z hz
      rcases List.mem_cons.1 hz with rfl | hz
      · exact hg (k, w, q) (by simp)
      · exact hg z (List.mem_cons_of_mem _ hz)
  have hbnil : bare b = [] ↔ bb = [] := by
    have h1 : b = [] ↔ bb = [] := by
      constructor
      · intro e; rw [e] at hbb; exact List.map_eq_nil_iff.1 hbb
      · intro e; rw [e] at hbb; exact List.map_eq_nil_iff.1 hbb.symm
    rw [← h1]
    cases b <;> simp [bare]
  -- the printed text
  obtain ⟨FN, hFN⟩ : ∃ FN : List UInt8, FN = if fn then 40 :: joinB [44, 32] (itemsT ps va) else [] := ⟨_, rfl⟩
  obtain ⟨R, hR⟩ : ∃ R : List UInt8, R = if bb = [] then [] else 32 :: prA (Lx.bareA bb) := ⟨_, rfl⟩
  have hY : prtL (df s).1 = t.text.data.toList ++ (FN ++ R) := by
    rw [hm, hFN, hR]
    show _ ++ (_ ++ (if bare b = [] then [] else 32 :: prA ((bare (bare b)).map klA))) = _
    rw [bare_bare, hbody]
    by_cases hb0 : bb = []
    · rw [if_pos hb0, if_pos (hbnil.2 hb0)]
    · rw [if_neg hb0, if_neg (fun e => hb0 (hbnil.1 e))]
  have hFNg : ∀ c ∈ t.text.data.toList ++ FN, c ≠ 10 ∧ c ≠ 92 := by
    intro c hc
    rcases List.mem_append.1 hc with hc | hc
    · exact word_good hname c hc
    · rw [hFN] at hc
      cases fn with
      | false => simp at hc
      | true =>
        simp only [if_true] at hc
        rcases List.mem_cons.1 hc with rfl | hc
        · decide
        · exact Lx.mem_joinB [44, 32] (fun c => c ≠ 10 ∧ c ≠ 92) (by decide) (by decide) _ (items_good hwords) c hc
  have hadj : ¬ Lx.adj (t.text.data.toList ++ (FN ++ R)) := by
    rw [← List.append_assoc, hR]
    by_cases hb0 : bb = []
    · rw [if_pos hb0, List.append_nil]
      exact Lx.adj_no92 _ fun c hc => (hFNg c hc).2
    · rw [if_neg hb0, show (t.text.data.toList ++ FN) ++ 32 :: prA (Lx.bareA bb) = ((t.text.data.toList ++ FN) ++ [32]) ++ prA (Lx.bareA bb) by simp]
      refine Lx.prA_noadj _ hgood _ (Lx.adj_no92 _ ?_) (by simp)
      intro c hc
      rcases List.mem_append.1 hc with hc | hc
      · exact (hFNg c hc).2
      · simp at hc; rw [hc]; decide
  have hks' := ks_text (hy.trans hY) hadj
  have hRtb : ∀ q, tb q R = setB bb := by
    intro q
    rw [hR]
    by_cases hb0 : bb = []
    · rw [if_pos hb0, hb0]; rfl
    · rw [if_neg hb0, hsub]
      exact Lx.body_back p' u' (by rw [← hsub]; exact hno6) q
  have hstop : Stop (FN ++ R) := by
    rw [hFN, hR]
    intro c r' e
    cases fn with
    | true =>
      simp only [if_true, List.cons_append, List.cons.injEq] at e
      rw [← e.1]; decide
    | false =>
      simp only [Bool.false_eq_true, if_false, List.nil_append] at e
      by_cases hb0 : bb = []
      · rw [if_pos hb0] at e; cases e
      · rw [if_neg hb0] at e
        simp only [List.cons.injEq] at e
        rw [← e.1]; decide
  rw [Lx.tb_word false hname hstop] at hks'
  obtain ⟨t', r', hl', ht', hr'⟩ := List.map_eq_cons_iff.1 hks'
  have ht2 : t'.kind = 1 ∧ t'.text = t.text ∧ t'.bl = false := by simpa [cv, kal] using ht'
  have hn' : nameOk t' = true := by
    rw [← hnameOk]
    simp only [nameOk, ht2.1, ht2.2.1, hk1]
  have key : ∃ b', brack r' = .ok (fn, ps, va, b') ∧ b'.map kal = (setB bb).map cv := by
    rw [hFN] at hr'
    cases fn with
    | false =>
      obtain ⟨rfl, rfl, -⟩ := hplain rfl
      simp only [Bool.false_eq_true, if_false, List.nil_append] at hr'
      rw [hRtb] at hr'
      refine ⟨r', ?_, hr'⟩
      rcases bb with _ | ⟨⟨k, w, q⟩, r1⟩
      · rw [List.map_eq_nil_iff.1 hr']; rfl
      · obtain ⟨z, l', rfl, hz, -⟩ := List.map_eq_cons_iff.1 hr'
        have : z.bl = true := by
          have := congrArg (fun x => x.2.2) hz
          simpa [cv, kal] using this
        simp [brack, this]
    | true =>
      simp only [if_true, List.cons_append] at hr'
      rw [Lx.tb_lpar] at hr'
      obtain ⟨pre, h1, h2⟩ := Lx.tb_join [44, 32] (.inr rfl) R (itemsB ps va) false (itemsB_ok hwords)
      rw [itemsB_snd] at h1
      rw [h1, hRtb] at hr'
      obtain ⟨z, l', rfl, hz, hl2⟩ := List.map_eq_cons_iff.1 hr'
      rw [List.map_append] at hl2
      obtain ⟨l1, l2, rfl, h3, h4⟩ := List.map_eq_append_iff.1 hl2
      have hz' : z.kind = 5 ∧ z.text = LP ∧ z.bl = false := by simpa [cv, kal, LP] using hz
      have h5 := cv_kt h3 h2
      rw [itemsB_kc] at h5
      refine ⟨l2, ?_, h4⟩
      rw [brack_inter (by simp [ktK, hz'.1, hz'.2.1]) hz'.2.2 ps va l1 l2 h5, if_pos hok]
  obtain ⟨b', hbr', hb'⟩ := key
  have hd' : defi (ks y) = bodyOf t.text fn ps va b' := by
    rw [hl']
    simp only [defi, if_pos hn', hbr', ht2.2.1]
  obtain ⟨e1, e2⟩ := bodyOf_same t.text fn ps va (bare_setB hbb.symm hb')
  have hs : df s = bodyOf t.text fn ps va b := hd
  have hyd : df y = bodyOf t.text fn ps va b' := hd'
  rw [hs] at h0
  rw [hs, hyd]
  exact ⟨by rw [← e1]; exact h0, e2⟩

/-- Names in brackets behind F are told. -/
theorem df_names (ps : List ByteArray) (va : Bool) (hw : ∀ p ∈ ps, Word p.data.toList) (y : ByteArray) (hy : y.data.toList = 70 :: 40 :: joinB [44] (itemsT ps va)) :
    df y = if okAll [] ps then (⟨⟨#[70]⟩, true, ps, va, []⟩, 0) else (.zero, 61) := by
  have hadj : ¬ Lx.adj (70 :: 40 :: joinB [44] (itemsT ps va)) := by
    refine Lx.adj_no92 _ fun c hc => ?_
    rcases List.mem_cons.1 hc with rfl | hc
    · decide
    · rcases List.mem_cons.1 hc with rfl | hc
      · decide
      · exact (Lx.mem_joinB [44] (fun c => c ≠ 10 ∧ c ≠ 92) (by decide) (by decide) _ (items_good hw) c hc).2
  have hks := ks_text hy hadj
  have hF : Word [70] := ⟨70, [], rfl, by decide, by decide⟩
  have h1 := Lx.tb_word (R := 40 :: joinB [44] (itemsT ps va)) false hF (Lx.stop_cons 40 _ (by decide))
  rw [List.singleton_append] at h1
  obtain ⟨pre, h2, h3⟩ := Lx.tb_join [44] (.inl rfl) [] (itemsB ps va) false (itemsB_ok hw)
  rw [itemsB_snd, List.append_nil, Lx.tb_nil, List.append_nil] at h2
  rw [h1, Lx.tb_lpar, h2] at hks
  obtain ⟨t, r, hl, ht, hr⟩ := List.map_eq_cons_iff.1 hks
  obtain ⟨u, l, rfl, hu, hl2⟩ := List.map_eq_cons_iff.1 hr
  have ht' : t.kind = 1 ∧ t.text = ⟨#[70]⟩ ∧ t.bl = false := by simpa [cv, kal] using ht
  have hu' : u.kind = 5 ∧ u.text = LP ∧ u.bl = false := by simpa [cv, kal, LP] using hu
  have h5 := cv_kt hl2 h3
  rw [itemsB_kc] at h5
  have hb := brack_inter (by simp [ktK, hu'.1, hu'.2.1]) hu'.2.2 ps va l [] h5
  rw [List.append_nil] at hb
  have hn : nameOk t = true := by
    simp only [nameOk, ht'.1, ht'.2.1]
    decide
  show defi (ks y) = _
  rw [hl]
  simp only [defi, if_pos hn, hb, ht'.2.1]
  cases okAll [] ps with
  | false => rfl
  | true => rfl
end Mx
end Go.Proofs.YtfjbmenakcnadaaDoor
