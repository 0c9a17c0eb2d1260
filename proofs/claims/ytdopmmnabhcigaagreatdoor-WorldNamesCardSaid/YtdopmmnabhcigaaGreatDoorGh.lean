/- What is proved: plain facts on tokens: what One asks; nothing is lost; what is printed is told again; a line's tokens hang on it alone. (and what stands with it) -/
import Derived.Test.YtdopmmnabhcigaaGreatDoorGb

/- What is proved: plain facts on tokens: what One asks; nothing is lost; what is printed is told again; a line's tokens hang on it alone. -/
namespace Go.Proofs.YtdopmmnabhcigaaGreatDoor.Lx
open Go.Lib
open Sp (Ch)

/-! ### How much is printed -/
theorem prA_length : ∀ (p : Bool) (b : List UInt8), (prA (tb p b)).length ≤ 2 * b.length := by
  refine tbInd ?_ ?_ ?_
  · intro p; simp [tb_nil, prA]
  · intro p b h ih
    rw [tb_blank p b h]
    rw [List.length_drop] at ih
    omega
  · intro p b hb h ih
    have h1 := first_le b hb
    rw [tb_tok p b hb h, prA_cons]
    rw [List.length_drop] at ih
    simp only [List.length_append, List.length_take]
    have : (if p = true then [(32 : UInt8)] else []).length ≤ 1 := by split <;> simp
    omega
theorem pr_length (p : Bool) (l : List Ch) : (pr (tk p l)).length ≤ 2 * l.length := by
  unfold pr
  rw [tk_al]
  have := prA_length p (bytes l)
  rwa [bytes_length] at this
theorem tk_length : ∀ (p : Bool) (l : List Ch), (tk p l).length ≤ l.length := by
  refine tkInd ?_ ?_ ?_
  · intro p; simp [tk_nil]
  · intro p l h ih
    rw [tk_blank p l h]
    rw [List.length_drop] at ih
    omega
  · intro p l hl h ih
    have h1 := first_len l hl
    rw [tk_tok p l hl h, List.length_cons]
    rw [List.length_drop] at ih
    omega

/-! ### One -/
theorem left_full (t : List UInt8) : ∀ k, (Sp.left k t).length = t.length → bytes (Sp.left k t) = t ∧ ∀ i x, (Sp.left k t)[i]? = some x → x.2 = k + i := by
  induction t using Sp.ind with
  | h0 => intro k _; exact ⟨rfl, fun i x h => by simp [Sp.left_nil] at h⟩
  | hp r ih =>
    intro k h
    rw [Sp.left_pair] at h
    have := Sp.left_le (k + 2) r
    simp at h
    omega
  | h1 c r hc ih =>
    intro k h
    rw [Sp.left_one k c r hc] at h ⊢
    obtain ⟨h1, h2⟩ := ih (k + 1) (by simpa using h)
    refine ⟨?_, fun i x hx => ?_⟩
    · show c :: bytes (Sp.left (k + 1) r) = c :: r
      rw [h1]
    · cases i with
      | zero => simp at hx; subst hx; rfl
      | succ i =>
        simp at hx
        rw [h2 i x hx]; omega

theorem one_full (t : List UInt8) (x : T) (h : tk false (Sp.left 0 t) = [x]) (hx : x.text.length = t.length) : x.text = t ∧ x.bl = false ∧ x.fr = 0 ∧ x.to = t.length := by
  obtain ⟨l, hl⟩ : ∃ l, l = Sp.left 0 t := ⟨_, rfl⟩
  rw [← hl] at h
  obtain ⟨m, _, hm, rfl, _⟩ := tk_cons false l x [] h
  have hne : l.drop m ≠ [] := by rw [Ne, List.drop_eq_nil_iff]; omega
  have hf := first_len (l.drop m) hne
  rw [List.length_drop] at hf
  have hle := Sp.left_le 0 t
  rw [← hl] at hle
  have hlen : ((bytes (l.drop m)).take (first (bytes (l.drop m))).2).length = (first (bytes (l.drop m))).2 := by
    rw [List.length_take, bytes_length, List.length_drop]; omega
  have hx' : ((bytes (l.drop m)).take (first (bytes (l.drop m))).2).length = t.length := hx
  rw [hlen] at hx'
  have hm0 : m = 0 := by omega
  subst hm0
  rw [List.drop_zero] at hf hx' hne ⊢
  have hll : l.length = t.length := by omega
  obtain ⟨h1, h2⟩ := left_full t 0 (by rw [← hl]; exact hll)
  rw [← hl] at h1 h2
  have hpos : 0 < l.length := List.length_pos_iff.2 hne
  refine ⟨?_, rfl, ?_, ?_⟩
  · show (bytes l).take (first (bytes l)).2 = t
    rw [hx', h1, List.take_length]
  · show (l.getD 0 (0, 0)).2 = 0
    rw [List.getD_eq_getElem?_getD, List.getElem?_eq_getElem hpos]
    exact h2 0 _ (List.getElem?_eq_getElem hpos)
  · show (l.getD ((first (bytes l)).2 - 1) (0, 0)).2 + 1 = t.length
    have hlt : (first (bytes l)).2 - 1 < l.length := by omega
    rw [List.getD_eq_getElem?_getD, List.getElem?_eq_getElem hlt]
    have := h2 _ _ (List.getElem?_eq_getElem hlt)
    show (l[(first (bytes l)).2 - 1]).2 + 1 = t.length
    rw [this]
    omega

/-! ### Nothing is lost -/
theorem left_take_before (l : List UInt8) : ∀ k i x, (Sp.left k l)[i]? = some x → Sp.left k (l.take (x.2 - k)) = (Sp.left k l).take i := by
  induction l using Sp.ind with
  | h0 => intro k i x h; simp [Sp.left_nil] at h
  | hp r ih =>
    intro k i x h
    rw [Sp.left_pair] at h ⊢
    have h1 := (Sp.left_at r (k + 2) x (List.mem_of_getElem? h)).1
    rw [show x.2 - k = x.2 - (k + 2) + 1 + 1 by omega, List.take_succ_cons, List.take_succ_cons, Sp.left_pair]
    exact ih _ i x h
  | h1 c r hc ih =>
    intro k i x h
    rw [Sp.left_one k c r hc] at h ⊢
    cases i with
    | zero =>
      simp at h; subst h
      simp [Sp.left_nil]
    | succ i =>
      simp at h
      have h1 := (Sp.left_at r (k + 1) x (List.mem_of_getElem? h)).1
      have h2 : hasPrefix (c :: r.take (x.2 - (k + 1))) [92, 10] = false := by
        cases r with
        | nil => simp [Sp.left_nil] at h
        | cons d r =>
          cases hq : hasPrefix (c :: (d :: r).take (x.2 - (k + 1))) [92, 10] with
          | false => rfl
          | true =>
            cases hn : x.2 - (k + 1) with
            | zero => rw [hn] at hq; rw [List.take_zero, Sp.pair_one] at hq; cases hq
            | succ n =>
              rw [hn, List.take_succ_cons] at hq
              rw [(Sp.pair_iff c d r).2 ((Sp.pair_iff c d _).1 hq)] at hc; cases hc
      rw [show x.2 - k = x.2 - (k + 1) + 1 by omega, List.take_succ_cons, Sp.left_one k c _ h2, ih _ i x h, List.take_succ_cons]
theorem left_drop_behind (l : List UInt8) (k i : Nat) (x : Ch) (h : (Sp.left k l)[i]? = some x) : Sp.left (x.2 + 1) (l.drop (x.2 + 1 - k)) = (Sp.left k l).drop (i + 1) := by
  have hk := (Sp.left_at l k x (List.mem_of_getElem? h))
  have hd := Sp.left_drop l k i x h
  have hlt := (List.getElem?_eq_some_iff.1 h).1
  have hx2 : l[x.2 - k]? = some x.1 := hk.2
  obtain ⟨hl2, e2⟩ := List.getElem?_eq_some_iff.1 hx2
  rw [List.drop_eq_getElem_cons hl2, e2, List.drop_eq_getElem_cons hlt, (List.getElem?_eq_some_iff.1 h).2] at hd
  cases hp : hasPrefix (x.1 :: l.drop (x.2 - k + 1)) [92, 10] with
  | true =>
    exfalso
    obtain ⟨r, e⟩ := Sp.pair_form _ hp
    rw [e, Sp.left_pair] at hd
    have : x ∈ Sp.left (x.2 + 2) r := by rw [hd]; simp
    have := (Sp.left_at _ _ _ this).1
    omega
  | false =>
    rw [Sp.left_one _ _ _ hp] at hd
    injection hd with _ hd
    rw [show x.2 + 1 - k = x.2 - k + 1 by omega, hd]

/-- A place behind so many of the bytes that are left: the beginning, or just behind the last one. -/
def Behind (t : List UInt8) (b last : Nat) : Prop := (b = 0 ∧ last = 0) ∨ ∃ c x, b = c + 1 ∧ (Sp.left 0 t)[c]? = some x ∧ last = x.2 + 1
theorem behind_le {t : List UInt8} {b last : Nat} (h : Behind t b last) : last ≤ t.length := by
  rcases h with ⟨_, rfl⟩ | ⟨c, x, _, hx, rfl⟩
  · omega
  · have := Sp.left_lt (List.mem_of_getElem? hx); omega
theorem behind_drop {t : List UInt8} {b last : Nat} (h : Behind t b last) : Sp.left last (t.drop last) = (Sp.left 0 t).drop b := by
  rcases h with ⟨rfl, rfl⟩ | ⟨c, x, rfl, hx, rfl⟩
  · simp
  · have := left_drop_behind t 0 c x hx
    rwa [Nat.sub_zero] at this
theorem bytes_left (k m : Nat) (t : List UInt8) : bytes (Sp.left k t) = bytes (Sp.left m t) := Sp.left_fst k m t

/-- What Covers asks of the next token. -/
theorem covers_next {t : List UInt8} {b last : Nat} {x : T} {rest : List T} (hb : Behind t b last) (h : tk false ((Sp.left 0 t).drop b) = x :: rest) :
    last ≤ x.fr ∧ x.fr < x.to ∧ x.to ≤ t.length ∧ x.text ≠ [] ∧ bytes (Sp.left 0 ((t.drop x.fr).take (x.to - x.fr))) = x.text ∧
    tk false (Sp.left 0 ((t.drop last).take (x.fr - last))) = [] ∧ ∃ b', Behind t b' x.to ∧ rest = tk false ((Sp.left 0 t).drop b') := by
  obtain ⟨l, hl⟩ : ∃ l, l = Sp.left 0 t := ⟨_, rfl⟩
  have hdr := behind_drop hb
  have hll := behind_le hb
  rw [← hl] at h hdr
  obtain ⟨m, hsk, hm, rfl, hrest⟩ := tk_cons false (l.drop b) x rest h
  rw [List.length_drop] at hm
  rw [List.drop_drop] at hrest ⊢
  have hne : l.drop (b + m) ≠ [] := by rw [Ne, List.drop_eq_nil_iff]; omega
  have hf := first_len _ hne
  obtain ⟨n, hn⟩ : ∃ n, n = (first (bytes (l.drop (b + m)))).2 := ⟨_, rfl⟩
  rw [← hn] at hf
  rw [List.drop_drop, ← hn] at hrest
  rw [List.length_drop] at hf
  have hxa : l[b + m]? = some (l.getD (b + m) (0, 0)) := by rw [List.getD_eq_getElem?_getD, List.getElem?_eq_getElem (by omega)]; rfl
  have hxz : l[b + m + (n - 1)]? = some (l.getD (b + m + (n - 1)) (0, 0)) := by rw [List.getD_eq_getElem?_getD, List.getElem?_eq_getElem (by omega)]; rfl
  obtain ⟨xa, ha⟩ : ∃ xa, xa = l.getD (b + m) (0, 0) := ⟨_, rfl⟩
  obtain ⟨xz, hz⟩ : ∃ xz, xz = l.getD (b + m + (n - 1)) (0, 0) := ⟨_, rfl⟩
  have hfr : (tokAt (false || decide (0 < m)) (l.drop (b + m))).fr = xa.2 := by
    rw [ha]; unfold tokAt; simp [List.getD_eq_getElem?_getD]
  have hto : (tokAt (false || decide (0 < m)) (l.drop (b + m))).to = xz.2 + 1 := by
    rw [hz, hn]; unfold tokAt; simp [List.getD_eq_getElem?_getD]
  have htx : (tokAt (false || decide (0 < m)) (l.drop (b + m))).text = (bytes (l.drop (b + m))).take n := by rw [hn]; rfl
  rw [hfr, hto, htx]
  rw [← ha] at hxa
  rw [← hz] at hxz
  have hxa0 := hxa
  have hxz0 := hxz
  rw [hl] at hxa0 hxz0
  obtain ⟨hsp1, hsp2⟩ := Sp.left_span t (b + m) (b + m + (n - 1)) xa xz (by omega) hxa0 hxz0
  have hal := Sp.left_lt (List.mem_of_getElem? hxa0)
  have hzl := Sp.left_lt (List.mem_of_getElem? hxz0)
  -- the first byte of the token, seen from 'last' on
  have hxl : (Sp.left last (t.drop last))[m]? = some xa := by rw [hdr, List.getElem?_drop]; exact hxa
  have hge := (Sp.left_at _ _ xa (List.mem_of_getElem? hxl)).1
  refine ⟨hge, by omega, by omega, ?_, ?_, ?_, b + m + n, ?_, ?_⟩
  · intro e
    have := congrArg List.length e
    rw [List.length_take, bytes_length, List.length_drop] at this
    simp at this
    omega
  · show (Sp.left 0 ((t.drop xa.2).take (xz.2 + 1 - xa.2))).map Prod.fst = _
    rw [hsp2, ← hl, show b + m + (n - 1) + 1 - (b + m) = n by omega]
    show bytes ((l.drop (b + m)).take n) = _
    rw [bytes_take]
  · have htb := left_take_before _ _ _ _ hxl
    refine skips_none hsk false _ ?_ (by rw [bytes_length, List.length_drop]; omega)
    rw [bytes_left 0 last, htb, bytes_take, hdr]
  · exact .inr ⟨b + m + (n - 1), xz, by omega, hxz0, rfl⟩
  · rw [hrest, ← hl, show b + (m + n) = b + m + n by omega]
theorem covers_end {t : List UInt8} {b last : Nat} (hb : Behind t b last) (h : tk false ((Sp.left 0 t).drop b) = []) : tk false (Sp.left 0 (t.drop last)) = [] := by
  refine tk_none h ?_
  rw [bytes_left 0 last, behind_drop hb]

/-! ### A line's tokens hang on it alone -/
theorem left_line (a b : List UInt8) : (a = [] ∨ a.getLast? ≠ some 92) → ∀ k, Sp.left k (a ++ 10 :: b) = Sp.left k a ++ (10, k + a.length) :: Sp.left (k + a.length + 1) b := by
  induction a using Sp.ind with
  | h0 =>
    intro _ k
    have h10 : hasPrefix (10 :: b) [92, 10] = false := by
      cases b with
      | nil => exact Sp.pair_one 10
      | cons d r =>
        cases hq : hasPrefix (10 :: d :: r) [92, 10] with
        | false => rfl
        | true => exact absurd ((Sp.pair_iff 10 d r).1 hq).1 (by decide)
    rw [List.nil_append, Sp.left_one k 10 b h10]; simp [Sp.left_nil]
  | hp r ih =>
    intro hl k
    rw [List.cons_append, List.cons_append, Sp.left_pair, Sp.left_pair]
    have hr : r = [] ∨ r.getLast? ≠ some 92 := by
      rcases List.eq_nil_or_concat r with h | ⟨r', c, h⟩
      · exact .inl h
      · refine .inr ?_
        rcases hl with hl | hl
        · cases hl
        · rw [h] at hl ⊢; simpa [List.getLast?_cons] using hl
    rw [ih hr (k + 2)]
    simp only [List.length_cons]
    rw [show k + 2 + r.length = k + (r.length + 1 + 1) by omega]
  | h1 c r hc ih =>
    intro hl k
    have hr : r = [] ∨ r.getLast? ≠ some 92 := by
      rcases List.eq_nil_or_concat r with h | ⟨r', d, h⟩
      · exact .inl h
      · refine .inr ?_
        rcases hl with hl | hl
        · cases hl
        · rw [h] at hl ⊢; simpa [List.getLast?_cons] using hl
    have h2 : hasPrefix (c :: (r ++ 10 :: b)) [92, 10] = false := by
      cases r with
      | nil =>
        rcases hl with hl | hl
        · cases hl
        · rw [List.nil_append]
          cases hq : hasPrefix (c :: 10 :: b) [92, 10] with
          | false => rfl
          | true =>
            have := ((Sp.pair_iff c 10 b).1 hq).1
            subst this
            simp at hl
      | cons d r =>
        rw [List.cons_append]
        cases hq : hasPrefix (c :: d :: (r ++ 10 :: b)) [92, 10] with
        | false => rfl
        | true => rw [(Sp.pair_iff c d r).2 ((Sp.pair_iff c d _).1 hq)] at hc; cases hc
    rw [List.cons_append, Sp.left_one k c _ h2, Sp.left_one k c r hc, ih hr (k + 1), List.cons_append]
    simp only [List.length_cons]
    rw [show k + 1 + r.length = k + (r.length + 1) by omega]

theorem isBl_10 : isBl 10 = false := by decide
theorem takeWhile_stop (q : UInt8 → Bool) (hq : q 10 = false) (x v : List UInt8) : ((x ++ 10 :: v).takeWhile q).length = (x.takeWhile q).length := by
  induction x with
  | nil => simp [hq]
  | cons c r ih =>
    rw [List.cons_append, List.takeWhile_cons, List.takeWhile_cons]
    split
    · simp [ih]
    · rfl
theorem word_line (x v : List UInt8) : wordLen (x ++ 10 :: v) = wordLen x := takeWhile_stop _ (by decide) x v
theorem num_line : ∀ (x v : List UInt8), numRest (x ++ 10 :: v) = numRest x
  | [], v => by
    cases v with
    | nil => simp [numRest, show numc 10 = false from by decide]
    | cons d r =>
      have e : numRest (10 :: d :: r) = if isE 10 && isSg d then 2 + numRest r else if numc 10 then 1 + numRest (d :: r) else 0 := rfl
      rw [List.nil_append, e, show isE 10 = false from by decide, show numc 10 = false from by decide]; rfl
  | [c], v => by
    have e : numRest (c :: 10 :: v) = if isE c && isSg 10 then 2 + numRest v else if numc c then 1 + numRest (10 :: v) else 0 := rfl
    have h0 := num_line [] v
    rw [List.nil_append] at h0
    rw [List.cons_append, List.nil_append, e, show isSg 10 = false from by decide, Bool.and_false, if_neg (by simp), h0]
    rfl
  | c :: d :: r, v => by
    have h1 := num_line r v
    have h2 := num_line (d :: r) v
    have e : ∀ u, numRest (c :: d :: u) = if isE c && isSg d then 2 + numRest u else if numc c then 1 + numRest (d :: u) else 0 := fun _ => rfl
    rw [List.cons_append, List.cons_append, e, e, h1]
    rw [List.cons_append] at h2
    rw [h2]
theorem head_line (x v : List UInt8) : headDigit (x ++ 10 :: v) = headDigit x := by
  cases x with
  | nil => rw [List.nil_append]; show digit 10 = false; decide
  | cons c r => rfl
theorem qr_line (q : UInt8) : ∀ (x v : List UInt8), qr q (x ++ 10 :: v) = qr q x
  | [], v => by
    cases v with
    | nil => simp [qr]
    | cons d r => simp [qr]
  | [c], v => by
    have e : qr q (c :: 10 :: v) = if c = 10 then none else if c = q then some 1 else if c = 92 then (if (10 : UInt8) = 10 then none else (qr q v).map (· + 2)) else (qr q (10 :: v)).map (· + 1) := rfl
    have h0 := qr_line q [] v
    rw [List.nil_append] at h0
    rw [List.cons_append, List.nil_append, e, h0]
    simp [qr]
  | c :: d :: r, v => by
    have h1 := qr_line q r v
    have h2 := qr_line q (d :: r) v
    have e : ∀ u, qr q (c :: d :: u) = if c = 10 then none else if c = q then some 1 else if c = 92 then (if d = 10 then none else (qr q u).map (· + 2)) else (qr q (d :: u)).map (· + 1) := fun _ => rfl
    rw [List.cons_append, List.cons_append, e, e, h1]
    rw [List.cons_append] at h2
    rw [h2]
theorem prefix_line (s x v : List UInt8) (h : 10 ∉ s) : s.isPrefixOf (x ++ 10 :: v) = s.isPrefixOf x := by
  induction s generalizing x with
  | nil => simp [List.isPrefixOf]
  | cons a s ih =>
    have ha : a ≠ 10 := fun e => h (by rw [e]; simp)
    cases x with
    | nil => simp [List.isPrefixOf, ha]
    | cons c r => simp only [List.cons_append, List.isPrefixOf, ih r (fun e => h (List.mem_cons_of_mem _ e))]
theorem sign_line (x v : List UInt8) : signLen (x ++ 10 :: v) = signLen x := by
  rw [sign_ref, sign_ref]
  have key : ∀ (L : List (List UInt8)), (∀ s ∈ L, 10 ∉ s) → L.any (·.isPrefixOf (x ++ 10 :: v)) = L.any (·.isPrefixOf x) := by
    intro L hL
    induction L with
    | nil => rfl
    | cons s L ih => rw [List.any_cons, List.any_cons, prefix_line s x v (hL s (by simp)), ih (fun s' hs' => hL s' (List.mem_cons_of_mem _ hs'))]
  unfold refSign
  rw [key threes (by decide), key twos (by decide), key ones (by decide)]
theorem first_line (x v : List UInt8) (hx : x ≠ []) : first (x ++ 10 :: v) = first x := by
  cases x with
  | nil => exact absurd rfl hx
  | cons c r =>
    have h1 := word_line (c :: r) v
    have h5 := sign_line (c :: r) v
    rw [List.cons_append] at h1 h5 ⊢
    have h2 : numLen (c :: (r ++ 10 :: v)) = numLen (c :: r) := by rw [numLen_cons, numLen_cons, head_line, num_line]
    have h3 : ∀ q, closedLen q (c :: (r ++ 10 :: v)) = closedLen q (c :: r) := fun q => by rw [closedLen_cons, closedLen_cons, qr_line]
    rw [first_cons, first_cons, h1, h2, h3, h3, h5]
theorem blank_noslash (c : UInt8) (r : List UInt8) (h : c ≠ 47) : blankLen (c :: r) = if isBl c then 1 else 0 := by
  rw [blankLen_cons]
  cases r with
  | nil => rfl
  | cons d r =>
    have e : commentLen (c :: d :: r) = 0 := by rw [commentLen_cons, if_neg (fun e => h e.1), if_neg (fun e => h e.1)]
    rw [e]
theorem tb_line (v : List UInt8) : ∀ (p : Bool) (u : List UInt8), (∀ c ∈ u, c ≠ 47) → ∃ q, tb p (u ++ 10 :: v) = tb p u ++ (7, [10], q) :: tb false v := by
  refine tbInd ?_ ?_ ?_
  · intro p _
    refine ⟨p, ?_⟩
    have hb : blankLen (10 :: v) = 0 := by rw [blank_noslash 10 v (by decide)]; decide
    rw [List.nil_append, tb_tok p _ (by simp) hb, tb_nil]
    have hf : first (10 :: v) = (7, 1) := by rw [first_cons, if_pos rfl]
    rw [hf]; rfl
  · intro p u hb ih hu
    cases u with
    | nil => simp [blankLen] at hb
    | cons c r =>
      have hc := hu c (by simp)
      have e1 := blank_noslash c r hc
      have e2 := blank_noslash c (r ++ 10 :: v) hc
      have hbl : blankLen (c :: r) = 1 := by
        rw [e1] at hb ⊢
        split at hb
        · rename_i h; rw [if_pos h]
        · simp at hb
      rw [hbl] at ih hb
      obtain ⟨q, hq⟩ := ih (fun d hd => hu d (List.mem_of_mem_drop hd))
      refine ⟨q, ?_⟩
      have hbl2 : blankLen (c :: (r ++ 10 :: v)) = 1 := by rw [e2, ← e1, hbl]
      rw [List.cons_append, tb_blank p _ (by omega), hbl2, tb_blank p (c :: r) (by omega), hbl]
      exact hq
  · intro p u hne hb ih hu
    obtain ⟨q, hq⟩ := ih (fun d hd => hu d (List.mem_of_mem_drop hd))
    refine ⟨q, ?_⟩
    have hf := first_line u v hne
    have hlen := first_le u hne
    have hb2 : blankLen (u ++ 10 :: v) = 0 := by
      cases u with
      | nil => exact absurd rfl hne
      | cons c r =>
        have hc := hu c (by simp)
        rw [blank_noslash c r hc] at hb
        rw [List.cons_append, blank_noslash c _ hc, hb]
    rw [tb_tok p _ (by simp) hb2, tb_tok p u hne hb, hf, List.take_append_of_le_length hlen.2, List.drop_append_of_le_length hlen.2, hq]
    rfl

/-! ### What is printed is told again -/
/-- R goes with u up to a blank of R. -/
def Ag : List UInt8 → List UInt8 → Prop
  | [], _ => True
  | c :: _, [] => c = 32
  | c :: r, d :: u => c = 32 ∨ (c = d ∧ Ag r u)
theorem Ag.nil (u : List UInt8) : Ag [] u := by cases u <;> trivial
theorem Ag.blank (r u : List UInt8) : Ag (32 :: r) u := by
  cases u with
  | nil => exact rfl
  | cons d u => exact .inl rfl
theorem Ag.cons (c : UInt8) (r u : List UInt8) (h : Ag r u) : Ag (c :: r) (c :: u) := .inr ⟨rfl, h⟩
theorem Ag.app (w : List UInt8) {r u : List UInt8} (h : Ag r u) : Ag (w ++ r) (w ++ u) := by
  induction w with
  | nil => exact h
  | cons c w ih => exact Ag.cons c _ _ ih
theorem prA_true : ∀ (p : Bool) (u : List UInt8), p = true → prA (tb p u) = [] ∨ ∃ r, prA (tb p u) = 32 :: r := by
  refine tbInd ?_ ?_ ?_
  · intro p _; exact .inl rfl
  · intro p u hb ih _
    rw [tb_blank p u hb]
    exact ih rfl
  · intro p u hu hb _ hp
    rw [tb_tok p u hu hb, prA_cons, hp]
    exact .inr ⟨_, rfl⟩
theorem prA_ag : ∀ (p : Bool) (u : List UInt8), Ag (prA (tb p u)) u := by
  refine tbInd ?_ ?_ ?_
  · intro p; exact Ag.nil _
  · intro p u hb _
    rw [tb_blank p u hb]
    rcases prA_true true (u.drop (blankLen u)) rfl with h | ⟨r, h⟩
    · rw [h]; exact Ag.nil _
    · rw [h]; exact Ag.blank _ _
  · intro p u hu hb ih
    rw [tb_tok p u hu hb, prA_cons]
    cases p with
    | true => exact Ag.blank _ _
    | false =>
      have := Ag.app (u.take (first u).2) ih
      rw [List.take_append_drop] at this
      simpa using this

/-- Does a star stand ahead of a slash? -/
def occ : List UInt8 → Prop
  | [] => False
  | [_] => False
  | c :: d :: r => (c = 42 ∧ d = 47) ∨ occ (d :: r)
theorem occ_clos : ∀ (l : List UInt8), occ l ↔ clos l ≠ none
  | [] => by simp [occ, clos]
  | [_] => by simp [occ, clos]
  | c :: d :: r => by
    have ih := occ_clos (d :: r)
    have e : clos (c :: d :: r) = if c = 42 ∧ d = 47 then some 0 else (clos (d :: r)).map (· + 1) := rfl
    have e2 : occ (c :: d :: r) = ((c = 42 ∧ d = 47) ∨ occ (d :: r)) := rfl
    rw [e, e2]
    by_cases h : c = 42 ∧ d = 47
    · simp [h]
    · rw [if_neg h, ih]
      simp [h]
theorem occ_right (v : List UInt8) : ∀ u, occ u → occ (v ++ u) := by
  induction v with
  | nil => intro u h; exact h
  | cons c v ih =>
    intro u h
    have := ih u h
    rw [List.cons_append]
    cases hv : v ++ u with
    | nil => rw [hv] at this; exact this.elim
    | cons d r => rw [hv] at this; exact .inr this
theorem occ_left : ∀ (v u : List UInt8), occ v → occ (v ++ u)
  | [], _, h => h.elim
  | [_], _, h => h.elim
  | c :: d :: r, u, h => by
    rcases h with h | h
    · exact .inl h
    · exact .inr (occ_left (d :: r) u h)
theorem occ_blank : ∀ (v r : List UInt8), occ (v ++ 32 :: r) → occ v ∨ occ r
  | [], r, h => by
    cases r with
    | nil => exact h.elim
    | cons d r =>
      rcases h with h | h
      · exact absurd h.1 (by decide)
      · exact .inr h
  | [c], r, h => by
    rcases h with h | h
    · exact absurd h.2 (by decide)
    · exact occ_blank [] r h
  | c :: d :: v, r, h => by
    rcases h with h | h
    · exact .inl (.inl h)
    · rcases occ_blank (d :: v) r h with h | h
      · exact .inl (.inr h)
      · exact .inr h
theorem occ_prA : ∀ (p : Bool) (u : List UInt8), ∀ v, occ (v ++ prA (tb p u)) → occ (v ++ u) := by
  refine tbInd ?_ ?_ ?_
  · intro p v h; exact h
  · intro p u hb ih v h
    rw [tb_blank p u hb] at h
    have key : occ v ∨ occ (prA (tb true (u.drop (blankLen u)))) := by
      rcases prA_true true (u.drop (blankLen u)) rfl with e | ⟨r, e⟩
      · rw [e, List.append_nil] at h; exact .inl h
      · rw [e] at h ⊢
        rcases occ_blank v r h with h | h
        · exact .inl h
        · exact .inr (occ_right [32] r h)
    rcases key with h | h
    · exact occ_left _ _ h
    · have := ih [] h
      rw [List.nil_append] at this
      have h2 := occ_right (u.take (blankLen u)) _ this
      rw [List.take_append_drop] at h2
      exact occ_right v u h2
  · intro p u hu hb ih v h
    rw [tb_tok p u hu hb, prA_cons] at h
    cases p with
    | false =>
      have h' : occ ((v ++ u.take (first u).2) ++ prA (tb false (u.drop (first u).2))) := by simpa using h
      have := ih _ h'
      rwa [List.append_assoc, List.take_append_drop] at this
    | true =>
      have h' : occ (v ++ 32 :: (u.take (first u).2 ++ prA (tb false (u.drop (first u).2)))) := by simpa using h
      rcases occ_blank _ _ h' with h1 | h1
      · exact occ_left _ _ h1
      · have := ih _ h1
        rw [List.take_append_drop] at this
        exact occ_right v u this
end Go.Proofs.YtdopmmnabhcigaaGreatDoor.Lx
