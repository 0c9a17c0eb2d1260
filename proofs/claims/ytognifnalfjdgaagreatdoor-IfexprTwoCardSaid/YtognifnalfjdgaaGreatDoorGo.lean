/- Plainly: what a text comes to goes by the kinds and the texts of its tokens; numbers in brackets as tokens. (and what stands with it) -/
import Derived.Test.YtognifnalfjdgaaGreatDoorGl
import Derived.Test.YtognifnalfjdgaaGreatDoorGn
import Derived.Test.YtognifnalfjdgaaGreatDoorGf

/- Plainly: what a text comes to goes by the kinds and the texts of its tokens; numbers in brackets as tokens. -/
namespace Go.Proofs.YtognifnalfjdgaaGreatDoor
open Go.RowKit Go.Shelf
namespace Ie

/-- A token without its place. -/
def cn (t : K) : K := ⟨t.kind, t.text, 0, 0, 0, false⟩
def on (q : Option (E × List K)) : Option (E × List K) := q.map fun p => (p.1, p.2.map cn)
def Nat1 (p : Rd) : Prop := ∀ l, p (l.map cn) = on (p l)
theorem more_cn {next : Rd} (h : Nat1 next) (lv : Nat) : ∀ f x l, more next lv f x (l.map cn) = on (more next lv f x l)
  | 0, x, l => rfl
  | f + 1, x, [] => rfl
  | f + 1, x, t :: r => by
    show (if lvOf (cn t) = lv then (match next (r.map cn) with | none => none | some (y, l') => more next lv f (.bin t.text x y) l') else some (x, cn t :: r.map cn)) = on (if lvOf t = lv then (match next r with | none => none | some (y, l') => more next lv f (.bin t.text x y) l') else some (x, t :: r))
    rw [show lvOf (cn t) = lvOf t from rfl, h r]
    by_cases hl : lvOf t = lv
    · rw [if_pos hl, if_pos hl]
      cases hq : next r with
      | none => rfl
      | some q => exact more_cn h lv f _ q.2
    · rw [if_neg hl, if_neg hl]; rfl
theorem level_cn {next : Rd} (h : Nat1 next) (lv : Nat) : Nat1 (level next lv) := fun l => by
  unfold level
  rw [h l]
  cases hq : next l with
  | none => rfl
  | some q =>
    show more next lv (q.2.map cn).length q.1 (q.2.map cn) = _
    rw [List.length_map]
    exact more_cn h lv _ _ _
theorem levels_cn {op : Rd} (h : Nat1 op) : ∀ k, Nat1 (levels op k)
  | 0 => h
  | k + 1 => level_cn (levels_cn h k) (10 - k)
theorem shut_cn (s : ByteArray) (q : Option (E × List K)) : shut s (on q) = on (shut s q) := by
  cases q with
  | none => rfl
  | some p =>
    obtain ⟨x, l⟩ := p
    cases l with
    | nil => rfl
    | cons t r =>
      show (if isS (cn t) s then some (x, r.map cn) else none) = on (if isS t s then some (x, r) else none)
      rw [show isS (cn t) s = isS t s from rfl]
      cases isS t s <;> rfl
theorem operS_cn {o e : Rd} (ho : Nat1 o) (he : Nat1 e) : Nat1 (operS o e) := fun l => by
  cases l with
  | nil => rfl
  | cons t r =>
    unfold operS
    show (if t.kind = 2 then some (ofNum (number t.text.data.toList), r.map cn) else if t.kind = 3 then some (ofNum (quote t.text.data.toList), r.map cn) else if t.kind = 1 then some (.num 0, r.map cn) else if t.kind = 5 then (if isUn t.text then (match o (r.map cn) with | none => none | some (x, l') => some (.un t.text x, l')) else if t.text = sLp then shut sRp (e (r.map cn)) else none) else none) = on (if t.kind = 2 then some (ofNum (number t.text.data.toList), r) else if t.kind = 3 then some (ofNum (quote t.text.data.toList), r) else if t.kind = 1 then some (.num 0, r) else if t.kind = 5 then (if isUn t.text then (match o r with | none => none | some (x, l') => some (.un t.text x, l')) else if t.text = sLp then shut sRp (e r) else none) else none)
    rw [ho r, he r, shut_cn]
    by_cases h2 : t.kind = 2
    · rw [if_pos h2, if_pos h2]; rfl
    rw [if_neg h2, if_neg h2]
    by_cases h3 : t.kind = 3
    · rw [if_pos h3, if_pos h3]; rfl
    rw [if_neg h3, if_neg h3]
    by_cases h1 : t.kind = 1
    · rw [if_pos h1, if_pos h1]; rfl
    rw [if_neg h1, if_neg h1]
    by_cases h5 : t.kind = 5
    · rw [if_pos h5, if_pos h5]
      cases isUn t.text with
      | true =>
        cases hq : o r with
        | none => rfl
        | some q => rfl
      | false =>
        show (if t.text = sLp then on (shut sRp (e r)) else none) = on (if t.text = sLp then shut sRp (e r) else none)
        by_cases hp : t.text = sLp
        · rw [if_pos hp, if_pos hp]
        · rw [if_neg hp, if_neg hp]; rfl
    · rw [if_neg h5, if_neg h5]; rfl
theorem exprS_cn {o e : Rd} (ho : Nat1 o) (he : Nat1 e) : Nat1 (exprS o e) := fun l => by
  unfold exprS
  rw [levels_cn ho 10 l]
  cases hq : levels o 10 l with
  | none => rfl
  | some p =>
    obtain ⟨x, l'⟩ := p
    cases l' with
    | nil => rfl
    | cons u r =>
      show (if isS (cn u) sAsk then (match shut sCol (e (r.map cn)) with | none => none | some (y, r2) => (match e r2 with | none => none | some (z, r3) => some (.ask x y z, r3))) else some (x, cn u :: r.map cn)) = on (if isS u sAsk then (match shut sCol (e r) with | none => none | some (y, r2) => (match e r2 with | none => none | some (z, r3) => some (.ask x y z, r3))) else some (x, u :: r))
      rw [show isS (cn u) sAsk = isS u sAsk from rfl, he r, shut_cn]
      cases isS u sAsk with
      | false => rfl
      | true =>
        cases hs : shut sCol (e r) with
        | none => rfl
        | some q =>
          obtain ⟨y, r2⟩ := q
          show (match e (r2.map cn) with | none => none | some (z, r3) => some (E.ask x y z, r3)) = on (match e r2 with | none => none | some (z, r3) => some (E.ask x y z, r3))
          rw [he r2]
          cases e r2 with
          | none => rfl
          | some q => rfl
theorem both_cn : ∀ d, Nat1 (both d).1 ∧ Nat1 (both d).2
  | 0 => ⟨fun _ => rfl, fun _ => rfl⟩
  | d + 1 => by
    obtain ⟨h1, h2⟩ := both_cn d
    have h := operS_cn h1 h2
    exact ⟨h, exprS_cn h h2⟩
theorem inLine_cn : ∀ l, inLine (l.map cn) = (inLine l).map cn
  | [] => rfl
  | t :: r => by
    have ih := inLine_cn r
    unfold inLine at ih ⊢
    rw [List.map_cons, List.filter_cons, List.filter_cons, ih, show (cn t).kind = t.kind from rfl]
    by_cases h : decide (t.kind ≠ 7) = true
    · rw [if_pos h, if_pos h]; rfl
    · rw [if_neg h, if_neg h]
theorem eval_cn (l : List K) : eval (l.map cn) = eval l := by
  unfold eval
  rw [inLine_cn, (both_cn 61).2 (inLine l) |> fun h => (h : expr 61 ((inLine l).map cn) = on (expr 61 (inLine l)))]
  cases hq : expr 61 (inLine l) with
  | none => rfl
  | some p =>
    obtain ⟨x, l'⟩ := p
    cases l' <;> rfl
/-- Tokens of bytes, without their places. -/
def kOf (a : Nat × List UInt8 × Bool) : K := ⟨a.1, ⟨a.2.1.toArray⟩, 0, 0, 0, false⟩
theorem evx_tb (s : ByteArray) (b : List UInt8) (hb : s.data.toList = b) (h : 10 ∉ b) : evx s = said (eval ((Lx.tb false b).map kOf)) := by
  have e : (toksK 0 s).map cn = (Lx.tb false b).map kOf := by
    unfold toksK
    have h1 : Lx.bytes (Sp.left 0 s.data.toList) = b := by rw [hb]; exact Lx.left_noadj b (fun k => h (Lx.adj_mem b k)) 0
    rw [← h1, ← Lx.tk_al, List.map_map, List.map_map]
    rfl
  unfold evx
  rw [← eval_cn, e]

/-! Signs and numbers as tokens. -/
theorem tb_at (b : List UInt8) (k n : Nat) (x r : List UInt8) (hb : b = x ++ r) (hx : x.length = n) (h0 : x ≠ []) (h1 : Lx.blankLen b = 0) (h2 : Lx.first b = (k, n)) : Lx.tb false b = (k, x, false) :: Lx.tb false r := by
  rw [Lx.tb_tok false b (by rw [hb]; simp [h0]) h1, h2, hb]
  subst hx
  show (k, (x ++ r).take x.length, false) :: Lx.tb false ((x ++ r).drop x.length) = _
  rw [List.take_left', List.drop_left'] <;> rfl
theorem tb_lp (r : List UInt8) : Lx.tb false (40 :: r) = (5, [40], false) :: Lx.tb false r := tb_at _ 5 1 [40] r rfl rfl (by simp) (Lx.blank_noslash 40 r (by decide)) (by kernel_rfl)
theorem tb_rp (r : List UInt8) : Lx.tb false (41 :: r) = (5, [41], false) :: Lx.tb false r := tb_at _ 5 1 [41] r rfl rfl (by simp) (Lx.blank_noslash 41 r (by decide)) (by kernel_rfl)
theorem dg_ne {c : UInt8} (h : isDg c) (d : UInt8) (hd : d.toNat < 48 ∨ 57 < d.toNat) : c ≠ d := by
  rintro rfl
  obtain ⟨h1, h2⟩ := h
  omega
theorem dg_digit {c : UInt8} (h : isDg c) : Lx.digit c = true := by
  obtain ⟨h1, h2⟩ := h
  unfold Lx.digit
  rw [Bool.and_eq_true]
  exact ⟨decide_eq_true (UInt8.le_iff_toNat_le.2 h1), decide_eq_true (UInt8.le_iff_toNat_le.2 h2)⟩
theorem dg_letter {c : UInt8} (h : isDg c) : Lx.letter c = false := by
  obtain ⟨h1, h2⟩ := h
  have a1 : ¬ (97 : UInt8) ≤ c := fun k => by have := UInt8.le_iff_toNat_le.1 k; have e : (97 : UInt8).toNat = 97 := rfl; omega
  have a2 : ¬ (65 : UInt8) ≤ c := fun k => by have := UInt8.le_iff_toNat_le.1 k; have e : (65 : UInt8).toNat = 65 := rfl; omega
  have a3 : c ≠ 95 := dg_ne ⟨h1, h2⟩ 95 (by decide)
  unfold Lx.letter
  rw [decide_eq_false a1, decide_eq_false a2]
  simp [a3]
theorem numRest_dg (r : List UInt8) (hr : ∀ c r', r = c :: r' → Lx.numc c = false) : ∀ ds : List UInt8, (∀ c ∈ ds, isDg c) → Lx.numRest (ds ++ r) = ds.length
  | [], _ => by
    cases r with
    | nil => rfl
    | cons c r' => exact Lx.num_zero c r' (hr c r' rfl)
  | [c], h => by
    have hc := h c (List.mem_cons_self ..)
    have hn : Lx.numc c = true := by unfold Lx.numc; rw [dg_digit hc]; simp
    have he : Lx.isE c = false := by
      unfold Lx.isE
      simp [dg_ne hc 101 (by decide), dg_ne hc 69 (by decide), dg_ne hc 112 (by decide), dg_ne hc 80 (by decide)]
    cases r with
    | nil => show (if Lx.numc c then 1 else 0) = 1; rw [if_pos hn]
    | cons d r' =>
      show (if Lx.isE c && Lx.isSg d then 2 + Lx.numRest r' else if Lx.numc c then 1 + Lx.numRest (d :: r') else 0) = 1
      rw [he, hn, Lx.num_zero d r' (hr d r' rfl)]
      rfl
  | c :: d :: ds, h => by
    have hc := h c (List.mem_cons_self ..)
    have hn : Lx.numc c = true := by unfold Lx.numc; rw [dg_digit hc]; simp
    have he : Lx.isE c = false := by
      unfold Lx.isE
      simp [dg_ne hc 101 (by decide), dg_ne hc 69 (by decide), dg_ne hc 112 (by decide), dg_ne hc 80 (by decide)]
    have ih := numRest_dg r hr (d :: ds) fun x hx => h x (List.mem_cons_of_mem _ hx)
    show (if Lx.isE c && Lx.isSg d then 2 + Lx.numRest (ds ++ r) else if Lx.numc c then 1 + Lx.numRest (d :: ds ++ r) else 0) = _
    rw [he, hn, ih]
    simp
    omega
theorem tb_num (c : UInt8) (ds r : List UInt8) (h : ∀ x ∈ c :: ds, isDg x) (hr : ∀ c r', r = c :: r' → Lx.numc c = false) : Lx.tb false ((c :: ds) ++ r) = (2, c :: ds, false) :: Lx.tb false r := by
  have hc := h c (List.mem_cons_self ..)
  have hl : Lx.numLen (c :: (ds ++ r)) = (c :: ds).length := by
    rw [Lx.numLen_cons, dg_digit hc, numRest_dg r hr ds fun x hx => h x (List.mem_cons_of_mem _ hx)]
    simp
    omega
  refine tb_at _ 2 (c :: ds).length (c :: ds) r rfl rfl (by simp) ?_ ?_
  · show Lx.blankLen (c :: (ds ++ r)) = 0
    rw [Lx.blank_noslash c _ (dg_ne hc 47 (by decide))]
    have hb : Lx.isBl c = false := by
      unfold Lx.isBl
      simp [dg_ne hc 32 (by decide), dg_ne hc 9 (by decide), dg_ne hc 11 (by decide), dg_ne hc 12 (by decide), dg_ne hc 13 (by decide)]
    rw [hb]; rfl
  · show Lx.first (c :: (ds ++ r)) = _
    rw [Lx.first_cons, if_neg (dg_ne hc 10 (by decide)), dg_letter hc, if_neg (by simp), hl, if_pos (by simp)]
theorem tb_minus (c : UInt8) (r : List UInt8) (h : isDg c) : Lx.tb false (45 :: c :: r) = (5, [45], false) :: Lx.tb false (c :: r) := by
  refine tb_at _ 5 1 [45] (c :: r) rfl rfl (by simp) (by kernel_rfl) ?_
  have hs : Lx.signLen (45 :: c :: r) = 1 := by
    rw [Lx.sign_ref]
    have n1 := (dg_ne h 62 (by decide)).symm
    have n2 := (dg_ne h 45 (by decide)).symm
    have n3 := (dg_ne h 61 (by decide)).symm
    simp [Lx.refSign, Lx.threes, Lx.twos, Lx.ones, Lx.oneBytes, List.isPrefixOf, n1, n2, n3]
  have h1 : Lx.numLen (45 :: c :: r) = 0 := by kernel_rfl
  have h2 : Lx.closedLen 34 (45 :: c :: r) = 0 := by kernel_rfl
  have h3 : Lx.closedLen 39 (45 :: c :: r) = 0 := by kernel_rfl
  rw [Lx.first_cons, h1, h2, h3, hs]
  rfl
/-- A number as tokens. -/
def numT (x : Int) : List K := if x < 0 then [⟨5, sSub, 0, 0, 0, false⟩, ⟨2, ⟨(decs (-x).toNat).toArray⟩, 0, 0, 0, false⟩] else [⟨2, ⟨(numTxt x).toArray⟩, 0, 0, 0, false⟩]
theorem tb_numTxt (x : Int) (h0 : -2147483648 ≤ x) (h1 : x ≤ 2147483647) (r : List UInt8) : (Lx.tb false (numTxt x ++ 41 :: r)).map kOf = numT x ++ (Lx.tb false (41 :: r)).map kOf := by
  have hr : ∀ c r', 41 :: r = c :: r' → Lx.numc c = false := fun c r' e => by
    injection e with e1 _
    rw [← e1]; decide
  unfold numT
  by_cases hx : x < 0
  · rw [if_pos hx]
    unfold numTxt
    rw [if_neg (by omega), if_pos hx]
    obtain ⟨c, ds, e, hc1, hc2⟩ := dcn_head 20 (-x).toNat (by omega) (Nat.lt_of_lt_of_le (show (-x).toNat < 10 ^ 10 by omega) (by decide))
    have hd := dcn_dg 20 (-x).toNat
    unfold decs
    rw [e] at hd ⊢
    show (Lx.tb false (45 :: c :: (ds ++ 41 :: r))).map kOf = _
    rw [tb_minus c _ ⟨by omega, hc2⟩]
    have := tb_num c ds (41 :: r) hd hr
    rw [List.cons_append] at this
    rw [this]
    rfl
  · rw [if_neg hx]
    have hd : ∃ c ds, numTxt x = c :: ds ∧ ∀ y ∈ c :: ds, isDg y := by
      unfold numTxt
      by_cases hz : x = 0
      · rw [if_pos hz]
        exact ⟨48, [], rfl, fun y hy => by rw [List.mem_singleton.1 hy]; exact ⟨by decide, by decide⟩⟩
      · rw [if_neg hz, if_neg hx]
        obtain ⟨c, ds, e, hc1, hc2⟩ := dcn_head 20 x.toNat (by omega) (Nat.lt_of_lt_of_le (show x.toNat < 10 ^ 10 by omega) (by decide))
        have hd := dcn_dg 20 x.toNat
        unfold decs
        rw [e] at hd ⊢
        exact ⟨c, ds, rfl, hd⟩
    obtain ⟨c, ds, e, hd⟩ := hd
    rw [e, tb_num c ds (41 :: r) hd hr]
    rfl
/-- What a number's text comes to. -/
def numE (x : Int) : E := if x < 0 then .un sSub (.num (-x).toNat) else .num x.toNat
theorem numE_bad (x : Int) : (numE x).isBad = false := by
  unfold numE
  split <;> rfl
theorem numE_comes (x : Int) (h0 : -2147483648 ≤ x) (h1 : x ≤ 2147483647) : comes (numE x) = (x, 0) := by
  unfold numE
  by_cases hx : x < 0
  · rw [if_pos hx]
    show (una sSub ((-x).toNat : Int), (0 : Int)) = _
    have e : una sSub ((-x).toNat : Int) = w64 (0 - ((-x).toNat : Int)) := rfl
    rw [e]
    have e2 : (0 - ((-x).toNat : Int)) = x := by omega
    rw [e2]
    unfold w64
    rw [IntKind.wrap_i64, show (x + 9223372036854775808) % 18446744073709551616 - 9223372036854775808 = x by omega]
  · rw [if_neg hx]
    show ((x.toNat : Int), (0 : Int)) = _
    rw [show (x.toNat : Int) = x by omega]
theorem number_decs (n : Nat) (h0 : 0 < n) (h1 : n ≤ 2147483648) : number (decs n) = some n := number_dcn 20 n h0 (Nat.lt_of_le_of_lt h1 (by decide)) (Nat.le_trans h1 (by decide))
theorem number_txt (x : Int) (hx : 0 ≤ x) (h1 : x ≤ 2147483647) : number (numTxt x) = some x.toNat := by
  unfold numTxt
  by_cases hz : x = 0
  · rw [if_pos hz, hz]; rfl
  · rw [if_neg hz, if_neg (by omega)]
    exact number_decs _ (by omega) (by omega)
theorem numTxt_nl (x : Int) : ∀ c ∈ numTxt x, c ≠ 10 := by
  intro c hc
  unfold numTxt decs at hc
  split at hc
  · rw [List.mem_singleton.1 hc]; decide
  · split at hc
    · rcases List.mem_cons.1 hc with rfl | hc
      · decide
      · exact dg_ne (dcn_dg _ _ c hc) 10 (by decide)
    · exact dg_ne (dcn_dg _ _ c hc) 10 (by decide)
end Ie
end Go.Proofs.YtognifnalfjdgaaGreatDoor

/- Plainly: what two numbers in brackets with a sign between come to, and what a choice with a number in brackets comes to. -/
namespace Go.Proofs.YtognifnalfjdgaaGreatDoor
open Go.RowKit Go.Shelf
namespace Ie

def pt (s : ByteArray) : K := ⟨5, s, 0, 0, 0, false⟩
def nt (s : ByteArray) : K := ⟨2, s, 0, 0, 0, false⟩
def brk (p : Bool) (d : ByteArray) : List K := pt sLp :: (if p then [pt sSub, nt d, pt sRp] else [nt d, pt sRp])
def nm (p : Bool) (d : ByteArray) : E := if p then .un sSub (ofNum (number d.data.toList)) else ofNum (number d.data.toList)
theorem numbrk (x : Int) (h0 : -2147483648 ≤ x) (h1 : x ≤ 2147483647) (r : List K) : ∃ p d, pt sLp :: (numT x ++ pt sRp :: r) = brk p d ++ r ∧ nm p d = numE x := by
  by_cases hx : x < 0
  · refine ⟨true, ⟨(decs (-x).toNat).toArray⟩, ?_, ?_⟩
    · unfold numT; rw [if_pos hx]; rfl
    · show E.un sSub (ofNum (number (decs (-x).toNat).toArray.toList)) = _
      rw [List.toList_toArray, number_decs _ (by omega) (by omega)]
      unfold numE
      rw [if_pos hx]
      rfl
  · refine ⟨false, ⟨(numTxt x).toArray⟩, ?_, ?_⟩
    · unfold numT; rw [if_neg hx]; rfl
    · show ofNum (number (numTxt x).toArray.toList) = _
      rw [List.toList_toArray, number_txt x (by omega) h1]
      unfold numE
      rw [if_neg hx]
      rfl
/-- The eighteen signs. -/
def sgn : Nat → ByteArray
  | 0 => sOr | 1 => sAnd | 2 => sBar | 3 => sHat | 4 => sAmp | 5 => sEq | 6 => sNe | 7 => sLt | 8 => sGt | 9 => sLe | 10 => sGe
  | 11 => sShl | 12 => sShr | 13 => sAdd | 14 => sSub | 15 => sMul | 16 => sQuo | _ => sRem
theorem eval_of {l : List K} {x : E} (h : expr 61 (inLine l) = some (x, [])) (hb : x.isBad = false) : eval l = comes x := by
  unfold eval
  rw [h]
  show (if x.isBad then ((0 : Int), (91 : Int)) else comes x) = _
  rw [hb]
  rfl
theorem tp0tt (d e : ByteArray) : expr 61 (inLine (brk true d ++ (pt (sgn 0) :: brk true e))) = some (.bin (sgn 0) (nm true d) (nm true e), []) := by kernel_rfl
theorem tp0tf (d e : ByteArray) : expr 61 (inLine (brk true d ++ (pt (sgn 0) :: brk false e))) = some (.bin (sgn 0) (nm true d) (nm false e), []) := by kernel_rfl
theorem tp0ft (d e : ByteArray) : expr 61 (inLine (brk false d ++ (pt (sgn 0) :: brk true e))) = some (.bin (sgn 0) (nm false d) (nm true e), []) := by kernel_rfl
theorem tp0ff (d e : ByteArray) : expr 61 (inLine (brk false d ++ (pt (sgn 0) :: brk false e))) = some (.bin (sgn 0) (nm false d) (nm false e), []) := by kernel_rfl
theorem tp1tt (d e : ByteArray) : expr 61 (inLine (brk true d ++ (pt (sgn 1) :: brk true e))) = some (.bin (sgn 1) (nm true d) (nm true e), []) := by kernel_rfl
theorem tp1tf (d e : ByteArray) : expr 61 (inLine (brk true d ++ (pt (sgn 1) :: brk false e))) = some (.bin (sgn 1) (nm true d) (nm false e), []) := by kernel_rfl
theorem tp1ft (d e : ByteArray) : expr 61 (inLine (brk false d ++ (pt (sgn 1) :: brk true e))) = some (.bin (sgn 1) (nm false d) (nm true e), []) := by kernel_rfl
theorem tp1ff (d e : ByteArray) : expr 61 (inLine (brk false d ++ (pt (sgn 1) :: brk false e))) = some (.bin (sgn 1) (nm false d) (nm false e), []) := by kernel_rfl
theorem tp2tt (d e : ByteArray) : expr 61 (inLine (brk true d ++ (pt (sgn 2) :: brk true e))) = some (.bin (sgn 2) (nm true d) (nm true e), []) := by kernel_rfl
theorem tp2tf (d e : ByteArray) : expr 61 (inLine (brk true d ++ (pt (sgn 2) :: brk false e))) = some (.bin (sgn 2) (nm true d) (nm false e), []) := by kernel_rfl
theorem tp2ft (d e : ByteArray) : expr 61 (inLine (brk false d ++ (pt (sgn 2) :: brk true e))) = some (.bin (sgn 2) (nm false d) (nm true e), []) := by kernel_rfl
theorem tp2ff (d e : ByteArray) : expr 61 (inLine (brk false d ++ (pt (sgn 2) :: brk false e))) = some (.bin (sgn 2) (nm false d) (nm false e), []) := by kernel_rfl
theorem tp3tt (d e : ByteArray) : expr 61 (inLine (brk true d ++ (pt (sgn 3) :: brk true e))) = some (.bin (sgn 3) (nm true d) (nm true e), []) := by kernel_rfl
theorem tp3tf (d e : ByteArray) : expr 61 (inLine (brk true d ++ (pt (sgn 3) :: brk false e))) = some (.bin (sgn 3) (nm true d) (nm false e), []) := by kernel_rfl
theorem tp3ft (d e : ByteArray) : expr 61 (inLine (brk false d ++ (pt (sgn 3) :: brk true e))) = some (.bin (sgn 3) (nm false d) (nm true e), []) := by kernel_rfl
theorem tp3ff (d e : ByteArray) : expr 61 (inLine (brk false d ++ (pt (sgn 3) :: brk false e))) = some (.bin (sgn 3) (nm false d) (nm false e), []) := by kernel_rfl
theorem tp4tt (d e : ByteArray) : expr 61 (inLine (brk true d ++ (pt (sgn 4) :: brk true e))) = some (.bin (sgn 4) (nm true d) (nm true e), []) := by kernel_rfl
theorem tp4tf (d e : ByteArray) : expr 61 (inLine (brk true d ++ (pt (sgn 4) :: brk false e))) = some (.bin (sgn 4) (nm true d) (nm false e), []) := by kernel_rfl
theorem tp4ft (d e : ByteArray) : expr 61 (inLine (brk false d ++ (pt (sgn 4) :: brk true e))) = some (.bin (sgn 4) (nm false d) (nm true e), []) := by kernel_rfl
theorem tp4ff (d e : ByteArray) : expr 61 (inLine (brk false d ++ (pt (sgn 4) :: brk false e))) = some (.bin (sgn 4) (nm false d) (nm false e), []) := by kernel_rfl
theorem tp5tt (d e : ByteArray) : expr 61 (inLine (brk true d ++ (pt (sgn 5) :: brk true e))) = some (.bin (sgn 5) (nm true d) (nm true e), []) := by kernel_rfl
theorem tp5tf (d e : ByteArray) : expr 61 (inLine (brk true d ++ (pt (sgn 5) :: brk false e))) = some (.bin (sgn 5) (nm true d) (nm false e), []) := by kernel_rfl
theorem tp5ft (d e : ByteArray) : expr 61 (inLine (brk false d ++ (pt (sgn 5) :: brk true e))) = some (.bin (sgn 5) (nm false d) (nm true e), []) := by kernel_rfl
theorem tp5ff (d e : ByteArray) : expr 61 (inLine (brk false d ++ (pt (sgn 5) :: brk false e))) = some (.bin (sgn 5) (nm false d) (nm false e), []) := by kernel_rfl
theorem tp6tt (d e : ByteArray) : expr 61 (inLine (brk true d ++ (pt (sgn 6) :: brk true e))) = some (.bin (sgn 6) (nm true d) (nm true e), []) := by kernel_rfl
theorem tp6tf (d e : ByteArray) : expr 61 (inLine (brk true d ++ (pt (sgn 6) :: brk false e))) = some (.bin (sgn 6) (nm true d) (nm false e), []) := by kernel_rfl
theorem tp6ft (d e : ByteArray) : expr 61 (inLine (brk false d ++ (pt (sgn 6) :: brk true e))) = some (.bin (sgn 6) (nm false d) (nm true e), []) := by kernel_rfl
theorem tp6ff (d e : ByteArray) : expr 61 (inLine (brk false d ++ (pt (sgn 6) :: brk false e))) = some (.bin (sgn 6) (nm false d) (nm false e), []) := by kernel_rfl
theorem tp7tt (d e : ByteArray) : expr 61 (inLine (brk true d ++ (pt (sgn 7) :: brk true e))) = some (.bin (sgn 7) (nm true d) (nm true e), []) := by kernel_rfl
theorem tp7tf (d e : ByteArray) : expr 61 (inLine (brk true d ++ (pt (sgn 7) :: brk false e))) = some (.bin (sgn 7) (nm true d) (nm false e), []) := by kernel_rfl
theorem tp7ft (d e : ByteArray) : expr 61 (inLine (brk false d ++ (pt (sgn 7) :: brk true e))) = some (.bin (sgn 7) (nm false d) (nm true e), []) := by kernel_rfl
theorem tp7ff (d e : ByteArray) : expr 61 (inLine (brk false d ++ (pt (sgn 7) :: brk false e))) = some (.bin (sgn 7) (nm false d) (nm false e), []) := by kernel_rfl
theorem tp8tt (d e : ByteArray) : expr 61 (inLine (brk true d ++ (pt (sgn 8) :: brk true e))) = some (.bin (sgn 8) (nm true d) (nm true e), []) := by kernel_rfl
theorem tp8tf (d e : ByteArray) : expr 61 (inLine (brk true d ++ (pt (sgn 8) :: brk false e))) = some (.bin (sgn 8) (nm true d) (nm false e), []) := by kernel_rfl
theorem tp8ft (d e : ByteArray) : expr 61 (inLine (brk false d ++ (pt (sgn 8) :: brk true e))) = some (.bin (sgn 8) (nm false d) (nm true e), []) := by kernel_rfl
theorem tp8ff (d e : ByteArray) : expr 61 (inLine (brk false d ++ (pt (sgn 8) :: brk false e))) = some (.bin (sgn 8) (nm false d) (nm false e), []) := by kernel_rfl
theorem tp9tt (d e : ByteArray) : expr 61 (inLine (brk true d ++ (pt (sgn 9) :: brk true e))) = some (.bin (sgn 9) (nm true d) (nm true e), []) := by kernel_rfl
theorem tp9tf (d e : ByteArray) : expr 61 (inLine (brk true d ++ (pt (sgn 9) :: brk false e))) = some (.bin (sgn 9) (nm true d) (nm false e), []) := by kernel_rfl
theorem tp9ft (d e : ByteArray) : expr 61 (inLine (brk false d ++ (pt (sgn 9) :: brk true e))) = some (.bin (sgn 9) (nm false d) (nm true e), []) := by kernel_rfl
theorem tp9ff (d e : ByteArray) : expr 61 (inLine (brk false d ++ (pt (sgn 9) :: brk false e))) = some (.bin (sgn 9) (nm false d) (nm false e), []) := by kernel_rfl
theorem tp10tt (d e : ByteArray) : expr 61 (inLine (brk true d ++ (pt (sgn 10) :: brk true e))) = some (.bin (sgn 10) (nm true d) (nm true e), []) := by kernel_rfl
theorem tp10tf (d e : ByteArray) : expr 61 (inLine (brk true d ++ (pt (sgn 10) :: brk false e))) = some (.bin (sgn 10) (nm true d) (nm false e), []) := by kernel_rfl
theorem tp10ft (d e : ByteArray) : expr 61 (inLine (brk false d ++ (pt (sgn 10) :: brk true e))) = some (.bin (sgn 10) (nm false d) (nm true e), []) := by kernel_rfl
theorem tp10ff (d e : ByteArray) : expr 61 (inLine (brk false d ++ (pt (sgn 10) :: brk false e))) = some (.bin (sgn 10) (nm false d) (nm false e), []) := by kernel_rfl
theorem tp11tt (d e : ByteArray) : expr 61 (inLine (brk true d ++ (pt (sgn 11) :: brk true e))) = some (.bin (sgn 11) (nm true d) (nm true e), []) := by kernel_rfl
theorem tp11tf (d e : ByteArray) : expr 61 (inLine (brk true d ++ (pt (sgn 11) :: brk false e))) = some (.bin (sgn 11) (nm true d) (nm false e), []) := by kernel_rfl
theorem tp11ft (d e : ByteArray) : expr 61 (inLine (brk false d ++ (pt (sgn 11) :: brk true e))) = some (.bin (sgn 11) (nm false d) (nm true e), []) := by kernel_rfl
theorem tp11ff (d e : ByteArray) : expr 61 (inLine (brk false d ++ (pt (sgn 11) :: brk false e))) = some (.bin (sgn 11) (nm false d) (nm false e), []) := by kernel_rfl
theorem tp12tt (d e : ByteArray) : expr 61 (inLine (brk true d ++ (pt (sgn 12) :: brk true e))) = some (.bin (sgn 12) (nm true d) (nm true e), []) := by kernel_rfl
theorem tp12tf (d e : ByteArray) : expr 61 (inLine (brk true d ++ (pt (sgn 12) :: brk false e))) = some (.bin (sgn 12) (nm true d) (nm false e), []) := by kernel_rfl
theorem tp12ft (d e : ByteArray) : expr 61 (inLine (brk false d ++ (pt (sgn 12) :: brk true e))) = some (.bin (sgn 12) (nm false d) (nm true e), []) := by kernel_rfl
theorem tp12ff (d e : ByteArray) : expr 61 (inLine (brk false d ++ (pt (sgn 12) :: brk false e))) = some (.bin (sgn 12) (nm false d) (nm false e), []) := by kernel_rfl
theorem tp13tt (d e : ByteArray) : expr 61 (inLine (brk true d ++ (pt (sgn 13) :: brk true e))) = some (.bin (sgn 13) (nm true d) (nm true e), []) := by kernel_rfl
theorem tp13tf (d e : ByteArray) : expr 61 (inLine (brk true d ++ (pt (sgn 13) :: brk false e))) = some (.bin (sgn 13) (nm true d) (nm false e), []) := by kernel_rfl
theorem tp13ft (d e : ByteArray) : expr 61 (inLine (brk false d ++ (pt (sgn 13) :: brk true e))) = some (.bin (sgn 13) (nm false d) (nm true e), []) := by kernel_rfl
theorem tp13ff (d e : ByteArray) : expr 61 (inLine (brk false d ++ (pt (sgn 13) :: brk false e))) = some (.bin (sgn 13) (nm false d) (nm false e), []) := by kernel_rfl
theorem tp14tt (d e : ByteArray) : expr 61 (inLine (brk true d ++ (pt (sgn 14) :: brk true e))) = some (.bin (sgn 14) (nm true d) (nm true e), []) := by kernel_rfl
theorem tp14tf (d e : ByteArray) : expr 61 (inLine (brk true d ++ (pt (sgn 14) :: brk false e))) = some (.bin (sgn 14) (nm true d) (nm false e), []) := by kernel_rfl
theorem tp14ft (d e : ByteArray) : expr 61 (inLine (brk false d ++ (pt (sgn 14) :: brk true e))) = some (.bin (sgn 14) (nm false d) (nm true e), []) := by kernel_rfl
theorem tp14ff (d e : ByteArray) : expr 61 (inLine (brk false d ++ (pt (sgn 14) :: brk false e))) = some (.bin (sgn 14) (nm false d) (nm false e), []) := by kernel_rfl
theorem tp15tt (d e : ByteArray) : expr 61 (inLine (brk true d ++ (pt (sgn 15) :: brk true e))) = some (.bin (sgn 15) (nm true d) (nm true e), []) := by kernel_rfl
theorem tp15tf (d e : ByteArray) : expr 61 (inLine (brk true d ++ (pt (sgn 15) :: brk false e))) = some (.bin (sgn 15) (nm true d) (nm false e), []) := by kernel_rfl
theorem tp15ft (d e : ByteArray) : expr 61 (inLine (brk false d ++ (pt (sgn 15) :: brk true e))) = some (.bin (sgn 15) (nm false d) (nm true e), []) := by kernel_rfl
theorem tp15ff (d e : ByteArray) : expr 61 (inLine (brk false d ++ (pt (sgn 15) :: brk false e))) = some (.bin (sgn 15) (nm false d) (nm false e), []) := by kernel_rfl
theorem tp16tt (d e : ByteArray) : expr 61 (inLine (brk true d ++ (pt (sgn 16) :: brk true e))) = some (.bin (sgn 16) (nm true d) (nm true e), []) := by kernel_rfl
theorem tp16tf (d e : ByteArray) : expr 61 (inLine (brk true d ++ (pt (sgn 16) :: brk false e))) = some (.bin (sgn 16) (nm true d) (nm false e), []) := by kernel_rfl
theorem tp16ft (d e : ByteArray) : expr 61 (inLine (brk false d ++ (pt (sgn 16) :: brk true e))) = some (.bin (sgn 16) (nm false d) (nm true e), []) := by kernel_rfl
theorem tp16ff (d e : ByteArray) : expr 61 (inLine (brk false d ++ (pt (sgn 16) :: brk false e))) = some (.bin (sgn 16) (nm false d) (nm false e), []) := by kernel_rfl
theorem tp17tt (d e : ByteArray) : expr 61 (inLine (brk true d ++ (pt (sgn 17) :: brk true e))) = some (.bin (sgn 17) (nm true d) (nm true e), []) := by kernel_rfl
theorem tp17tf (d e : ByteArray) : expr 61 (inLine (brk true d ++ (pt (sgn 17) :: brk false e))) = some (.bin (sgn 17) (nm true d) (nm false e), []) := by kernel_rfl
theorem tp17ft (d e : ByteArray) : expr 61 (inLine (brk false d ++ (pt (sgn 17) :: brk true e))) = some (.bin (sgn 17) (nm false d) (nm true e), []) := by kernel_rfl
theorem tp17ff (d e : ByteArray) : expr 61 (inLine (brk false d ++ (pt (sgn 17) :: brk false e))) = some (.bin (sgn 17) (nm false d) (nm false e), []) := by kernel_rfl
theorem two_parse (p q : Bool) (d e : ByteArray) : ∀ k < 18, expr 61 (inLine (brk p d ++ (pt (sgn k) :: brk q e))) = some (.bin (sgn k) (nm p d) (nm q e), []) := by
  intro k hk
  have hc : k = 0 ∨ k = 1 ∨ k = 2 ∨ k = 3 ∨ k = 4 ∨ k = 5 ∨ k = 6 ∨ k = 7 ∨ k = 8 ∨ k = 9 ∨ k = 10 ∨ k = 11 ∨ k = 12 ∨ k = 13 ∨ k = 14 ∨ k = 15 ∨ k = 16 ∨ k = 17 := by omega
  rcases hc with rfl | rfl | rfl | rfl | rfl | rfl | rfl | rfl | rfl | rfl | rfl | rfl | rfl | rfl | rfl | rfl | rfl | rfl
  · cases p <;> cases q
    · exact tp0ff d e
    · exact tp0ft d e
    · exact tp0tf d e
    · exact tp0tt d e
  · cases p <;> cases q
    · exact tp1ff d e
    · exact tp1ft d e
    · exact tp1tf d e
    · exact tp1tt d e
  · cases p <;> cases q
    · exact tp2ff d e
    · exact tp2ft d e
    · exact tp2tf d e
    · exact tp2tt d e
  · cases p <;> cases q
    · exact tp3ff d e
    · exact tp3ft d e
    · exact tp3tf d e
    · exact tp3tt d e
  · cases p <;> cases q
    · exact tp4ff d e
    · exact tp4ft d e
    · exact tp4tf d e
    · exact tp4tt d e
  · cases p <;> cases q
    · exact tp5ff d e
    · exact tp5ft d e
    · exact tp5tf d e
    · exact tp5tt d e
  · cases p <;> cases q
    · exact tp6ff d e
    · exact tp6ft d e
    · exact tp6tf d e
    · exact tp6tt d e
  · cases p <;> cases q
    · exact tp7ff d e
    · exact tp7ft d e
    · exact tp7tf d e
    · exact tp7tt d e
  · cases p <;> cases q
    · exact tp8ff d e
    · exact tp8ft d e
    · exact tp8tf d e
    · exact tp8tt d e
  · cases p <;> cases q
    · exact tp9ff d e
    · exact tp9ft d e
    · exact tp9tf d e
    · exact tp9tt d e
  · cases p <;> cases q
    · exact tp10ff d e
    · exact tp10ft d e
    · exact tp10tf d e
    · exact tp10tt d e
  · cases p <;> cases q
    · exact tp11ff d e
    · exact tp11ft d e
    · exact tp11tf d e
    · exact tp11tt d e
  · cases p <;> cases q
    · exact tp12ff d e
    · exact tp12ft d e
    · exact tp12tf d e
    · exact tp12tt d e
  · cases p <;> cases q
    · exact tp13ff d e
    · exact tp13ft d e
    · exact tp13tf d e
    · exact tp13tt d e
  · cases p <;> cases q
    · exact tp14ff d e
    · exact tp14ft d e
    · exact tp14tf d e
    · exact tp14tt d e
  · cases p <;> cases q
    · exact tp15ff d e
    · exact tp15ft d e
    · exact tp15tf d e
    · exact tp15tt d e
  · cases p <;> cases q
    · exact tp16ff d e
    · exact tp16ft d e
    · exact tp16tf d e
    · exact tp16tt d e
  · cases p <;> cases q
    · exact tp17ff d e
    · exact tp17ft d e
    · exact tp17tf d e
    · exact tp17tt d e
theorem sgn_tb (k : Nat) (hk : k < 18) (r : List UInt8) : Lx.tb false ((sgn k).data.toList ++ 40 :: r) = (5, (sgn k).data.toList, false) :: Lx.tb false (40 :: r) := by
  have hc : k = 0 ∨ k = 1 ∨ k = 2 ∨ k = 3 ∨ k = 4 ∨ k = 5 ∨ k = 6 ∨ k = 7 ∨ k = 8 ∨ k = 9 ∨ k = 10 ∨ k = 11 ∨ k = 12 ∨ k = 13 ∨ k = 14 ∨ k = 15 ∨ k = 16 ∨ k = 17 := by omega
  rcases hc with rfl | rfl | rfl | rfl | rfl | rfl | rfl | rfl | rfl | rfl | rfl | rfl | rfl | rfl | rfl | rfl | rfl | rfl
  all_goals exact tb_at _ 5 _ _ (40 :: r) rfl rfl (by decide) (by kernel_rfl) (by kernel_rfl)
theorem sgn_nl (k : Nat) (hk : k < 18) : ∀ c ∈ (sgn k).data.toList, c ≠ 10 := by
  have hc : k = 0 ∨ k = 1 ∨ k = 2 ∨ k = 3 ∨ k = 4 ∨ k = 5 ∨ k = 6 ∨ k = 7 ∨ k = 8 ∨ k = 9 ∨ k = 10 ∨ k = 11 ∨ k = 12 ∨ k = 13 ∨ k = 14 ∨ k = 15 ∨ k = 16 ∨ k = 17 := by omega
  rcases hc with rfl | rfl | rfl | rfl | rfl | rfl | rfl | rfl | rfl | rfl | rfl | rfl | rfl | rfl | rfl | rfl | rfl | rfl <;> decide
def two9 (k : Nat) (x y : Int) : List UInt8 := 40 :: (numTxt x ++ 41 :: ((sgn k).data.toList ++ 40 :: (numTxt y ++ [41])))
theorem comes_two (s : ByteArray) (x y : Int) (h0 : -2147483648 ≤ x) (h1 : x ≤ 2147483647) (g0 : -2147483648 ≤ y) (g1 : y ≤ 2147483647) : comes (.bin s (numE x) (numE y)) = match early s x with | some n => (n, 0) | none => two s x y := by
  show (if (comes (numE x)).2 ≠ 0 then ((0 : Int), (comes (numE x)).2) else match early s (comes (numE x)).1 with | some n => (n, 0) | none => if (comes (numE y)).2 ≠ 0 then (0, (comes (numE y)).2) else two s (comes (numE x)).1 (comes (numE y)).1) = _
  rw [numE_comes x h0 h1, numE_comes y g0 g1]
  rfl
theorem evx_two (s : ByteArray) (k : Nat) (hk : k < 18) (x y : Int) (h0 : -2147483648 ≤ x) (h1 : x ≤ 2147483647) (g0 : -2147483648 ≤ y) (g1 : y ≤ 2147483647) (hs : s.data.toList = two9 k x y) :
    evx s = said (match early (sgn k) x with | some n => (n, 0) | none => two (sgn k) x y) := by
  rw [evx_tb s (two9 k x y) hs, ← comes_two (sgn k) x y h0 h1 g0 g1]
  · congr 1
    have e : (Lx.tb false (two9 k x y)).map kOf = pt sLp :: (numT x ++ pt sRp :: (pt (sgn k) :: (pt sLp :: (numT y ++ pt sRp :: [])))) := by
      unfold two9
      rw [tb_lp, List.map_cons, tb_numTxt x h0 h1, tb_rp, List.map_cons, sgn_tb k hk, List.map_cons, tb_lp, List.map_cons, tb_numTxt y g0 g1, tb_rp, List.map_cons, Lx.tb_nil]
      rfl
    obtain ⟨q, d', e2, n2⟩ := numbrk y g0 g1 []
    rw [e2, List.append_nil] at e
    obtain ⟨p, d, e1, n1⟩ := numbrk x h0 h1 (pt (sgn k) :: brk q d')
    rw [e1] at e
    rw [e, ← n1, ← n2]
    refine eval_of (two_parse p q d d' k hk) ?_
    show ((nm p d).isBad || (nm q d').isBad) = false
    rw [n1, n2, numE_bad, numE_bad]
    rfl
  · unfold two9
    simp only [List.mem_cons, List.mem_append, List.not_mem_nil]
    have z1 := numTxt_nl x 10
    have z2 := numTxt_nl y 10
    have z3 := sgn_nl k hk 10
    rintro (h | h | h | h | h | h | h | h) <;> first | exact absurd h (by decide) | exact z1 h rfl | exact z2 h rfl | exact z3 h rfl | exact h.elim
end Ie
end Go.Proofs.YtognifnalfjdgaaGreatDoor

/- What is proved: a number as a text (the law's own). -/
namespace Go.Proofs.YtognifnalfjdgaaGreatDoor
open Go.RowKit Go.Shelf

def StrPost (l : List UInt8) (w : World) (e : Ending) (w' : World) : Prop := e = .returned (.string ⟨l.toArray⟩) ∧ Below w.heap.size w w'
noncomputable def nbBody : Code := Tryz.f20.body.getD .skip

theorem conv_dg (m : Nat) (w : World) : (convert 77 9 (.slice (some ⟨w.heap.size, 0, none⟩) 1 1)).run Tryz.prog (w.alloc (.cells #[.int .u8 (48 + (m : Int) % 10)] 5)) = .ok (.string ⟨#[UInt8.ofNat (48 + m % 10)]⟩) (w.alloc (.cells #[.int .u8 (48 + (m : Int) % 10)] 5)) := by
  have e : (48 + (m : Int) % 10) = ((UInt8.ofNat (48 + m % 10)).toNat : Int) := by rw [Ie.dg_byte]; omega
  rw [e]
  exact conv_one _ w

set_option maxRecDepth 100000 in
set_option maxHeartbeats 4000000 in
theorem nb_6z (w W : World) (hB : Below w.heap.size w W) (R : List UInt8) (hR : R = [48]) (c0 c1 c2 c3 c4 c6 c7 c8 c9 c10 c11 c12 c13 c14 c15 c16 c17 c18 c19 c20 c21 c22 c23 c24 c25 c26 c27 c28 : Value) :
    Code.wp Tryz.prog (secs 6 nbBody) (bodyPost Tryz.prog Tryz.f20 (StrPost R w)) ⟨#[c0, c1, c2, c3, c4, .string ⟨([] : List UInt8).toArray⟩, c6, c7, c8, c9, c10, c11, c12, c13, c14, c15, c16, c17, c18, c19, c20, c21, c22, c23, c24, c25, c26, c27, c28], []⟩ W := by
  have HB := Lib.hid hB
  have HR := Lib.hid hR
  clear hB hR
  refine wp_sec 6 nbBody rfl ?_
  conv => arg 2; whnf
  go_wp2_with fail
  go_ret
  exact ⟨by rw [HR.out]; rfl, HB.out⟩

set_option maxRecDepth 100000 in
set_option maxHeartbeats 4000000 in
theorem nb_6 (w W : World) (hB : Below w.heap.size w W) (sg acc R : List UInt8) (hs : sg.length ≤ 1) (hl : acc.length ≤ 20) (h0 : acc ≠ []) (hR : R = sg ++ acc) (c0 c1 c2 c3 c6 c7 c8 c9 c10 c11 c12 c13 c14 c15 c16 c17 c18 c19 c20 c21 c22 c23 c24 c25 c26 c27 c28 : Value) :
    Code.wp Tryz.prog (secs 6 nbBody) (bodyPost Tryz.prog Tryz.f20 (StrPost R w)) ⟨#[c0, c1, c2, c3, .string ⟨sg.toArray⟩, .string ⟨acc.toArray⟩, c6, c7, c8, c9, c10, c11, c12, c13, c14, c15, c16, c17, c18, c19, c20, c21, c22, c23, c24, c25, c26, c27, c28], []⟩ W := by
  have HB := Lib.hid hB
  have HR := Lib.hid hR
  have he : acc.isEmpty = false := by
    cases acc with
    | nil => exact absurd rfl h0
    | cons c r => rfl
  have had : ∀ W, (Op.stringOp .add ⟨sg.toArray⟩ ⟨acc.toArray⟩).run Tryz.prog W = .ok (.string ⟨(sg ++ acc).toArray⟩) W := fun W => add_run sg acc (by omega) W
  clear hB hR h0
  refine wp_sec 6 nbBody rfl ?_
  conv => arg 2; whnf
  go_wp2_with fail
  refine wp_sec 7 nbBody rfl ?_
  conv => arg 2; whnf
  go_wp2_with fail
  conv => arg 2; whnf
  go_wp2_with fail
  go_ret
  exact ⟨by rw [HR.out]; rfl, HB.out⟩

set_option maxRecDepth 100000 in
set_option maxHeartbeats 4000000 in
/-- From the loop on: so many digits of what is left, ahead of what has been written. -/
theorem nb_5 (w W : World) (hB : Below w.heap.size w W) (sg : List UInt8) (n : Nat) (hn : n ≤ 4294967296) (hsg : sg.length ≤ 1) (R : List UInt8) (hR : R = (if n = 0 then [48] else sg ++ Ie.decs n)) (c0 c1 c2 c6 c7 c8 c9 c10 c11 c12 c13 c14 c15 c16 c17 c18 c19 c20 c21 c22 c23 c24 c25 c26 c27 c28 : Value) :
    Code.wp Tryz.prog (secs 5 nbBody) (bodyPost Tryz.prog Tryz.f20 (StrPost R w)) ⟨#[c0, c1, c2, .int .i64 n, .string ⟨sg.toArray⟩, .string ⟨#[]⟩, c6, c7, c8, c9, c10, c11, c12, c13, c14, c15, c16, c17, c18, c19, c20, c21, c22, c23, c24, c25, c26, c27, c28], []⟩ W := by
  have HR := Lib.hid hR
  have HB0 := Lib.hid hB
  have HD : Hid (Ie.decs n = Ie.dcn 20 n) := Lib.hid rfl
  have HN := Lib.hid hn
  clear hR hB hn
  refine wp_sec 5 nbBody rfl ?_
  conv => arg 2; whnf
  go_wp2_with fail
  go_loopw [3, 5] (fun t i wr => ∃ (m f : Nat) (acc : List UInt8), t = .int .i64 m ∧ i = .string ⟨acc.toArray⟩ ∧ Ie.dcn f m ++ acc = Ie.dcn 20 n ∧ m < 10 ^ f ∧ m ≤ n ∧ acc.length + f = 20 ∧ Below w.heap.size w wr) (fun t _ _ => (intOf t).toNat)
  case atStart => exact ⟨n, 20, [], rfl, rfl, List.append_nil _, Nat.lt_of_le_of_lt HN.out (by decide), Nat.le_refl _, rfl, HB0.out⟩
  case round =>
    obtain ⟨m, f, acc, rfl, rfl, hd, hm, hmn, ha, hB⟩ := hrel
    have hsB := hB.size
    have hn := HN.out
    by_cases h0 : m = 0
    · obtain rfl : m = 0 := h0
      have he : acc = Ie.dcn 20 n := by rw [← hd, Ie.dcn_zero]; rfl
      by_cases hz : n = 0
      · have hR : R = [48] := by rw [HR.out, if_pos hz]
        obtain rfl : acc = [] := by rw [he, hz, Ie.dcn_zero]
        have HR' := Lib.hid hR
        have HB' := Lib.hid hB
        clear hd hm hmn he hz hR hB
        go_wp2_with fail
        exact nb_6z w _ HB'.out R HR'.out _ _ _ _ _ _ _ _ _ _ _ _ _ _ _ _ _ _ _ _ _ _ _ _ _ _ _ _
      · have hR : R = sg ++ acc := by rw [HR.out, if_neg hz, HD.out, he]
        have hne : acc ≠ [] := by
          obtain ⟨c, r, e, _⟩ := Ie.dcn_head 20 n (by omega) (Nat.lt_of_le_of_lt hn (by decide))
          rw [he, e]
          simp
        have HR' := Lib.hid hR
        have HB' := Lib.hid hB
        have HE' := Lib.hid hne
        have hal : acc.length ≤ 20 := by omega
        clear hd hm hmn he hz hR hB hne
        go_wp2_with fail
        exact nb_6 w _ HB'.out sg acc R hsg hal HE'.out HR'.out _ _ _ _ _ _ _ _ _ _ _ _ _ _ _ _ _ _ _ _ _ _ _ _ _ _ _
    · have hp : 0 < (m : Int) := by omega
      obtain ⟨g, rfl⟩ : ∃ g, f = g + 1 := ⟨f - 1, by cases f with | zero => simp at hm; omega | succ k => rfl⟩
      have hcv0 := conv_dg m wr
      have hd' : Ie.dcn g (m / 10) ++ (UInt8.ofNat (48 + m % 10) :: acc) = Ie.dcn 20 n := by rw [← Ie.dcn_step g m h0]; exact hd
      obtain ⟨b, hb⟩ : ∃ b, b = UInt8.ofNat (48 + m % 10) := ⟨_, rfl⟩
      rw [← hb] at hcv0 hd'
      have hcv := hcv0
      have had : ∀ W, (Op.stringOp .add ⟨#[b]⟩ ⟨acc.toArray⟩).run Tryz.prog W = .ok (.string ⟨(b :: acc).toArray⟩) W := fun W => add_run [b] acc (by simp; omega) W
      have hm' : m / 10 < 10 ^ g := by rw [Nat.pow_succ] at hm; omega
      have HD' := Lib.hid hd'
      have HM' := Lib.hid hm'
      clear hd hm hd' hm' hb hcv0
      go_wp2_with fail
      go_roundw
      case rel => exact ⟨m / 10, g, b :: acc, by go_num, rfl, HD'.out, HM'.out, by omega, by simp; omega, hB.alloc hsB _⟩
      case measure => simp [intOf]; omega
theorem i32_wf {n : Int} (h : (Lit.int .i32 n).wf = true) : -2147483648 ≤ n ∧ n ≤ 2147483647 := by
  have h' : (decide (IntKind.i32.min ≤ n) && decide (n ≤ IntKind.i32.max)) = true := h
  rw [Bool.and_eq_true] at h'
  have e1 : IntKind.i32.min = -2147483648 := by decide
  have e2 : IntKind.i32.max = 2147483647 := by decide
  have a := of_decide_eq_true h'.1
  have b := of_decide_eq_true h'.2
  rw [e1] at a
  rw [e2] at b
  exact ⟨a, b⟩
set_option maxRecDepth 100000 in
set_option maxHeartbeats 4000000 in
theorem inum_any (x : Int) (h0 : -2147483648 ≤ x) (h1 : x ≤ 2147483647) (w : World) : Calls Tryz.prog 20 #[.int .i32 x] w (StrPost (Ie.numTxt x) w) := by
  obtain ⟨R, hR⟩ : ∃ R, R = Ie.numTxt x := ⟨_, rfl⟩
  rw [← hR]
  by_cases hn : x < 0
  · obtain ⟨n, hx⟩ : ∃ n : Nat, x = -(n : Int) := ⟨(-x).toNat, by omega⟩
    have e : R = if n = 0 then [48] else [45] ++ Ie.decs n := by
      rw [hR, if_neg (by omega)]
      unfold Ie.numTxt
      rw [if_neg (by omega), if_pos hn]
      have : (-x).toNat = n := by omega
      rw [this]; rfl
    have HE := Lib.hid e
    have hz : n ≤ 4294967296 := by omega
    clear e hR
    subst hx
    have e2 : -(-(n : Int)) = n := by omega
    go_enter Tryz.func20, Tryz.ntmps20
    show Code.wp Tryz.prog (secs 0 nbBody) _ _ _
    refine wp_sec 0 nbBody rfl ?_
    conv => arg 2; whnf
    go_wp2_with fail
    refine wp_sec 1 nbBody rfl ?_
    conv => arg 2; whnf
    go_wp2_with fail
    refine wp_sec 2 nbBody rfl ?_
    conv => arg 2; whnf
    go_wp2_with fail
    refine wp_sec 3 nbBody rfl ?_
    conv => arg 2; whnf
    go_wp2_with fail
    refine wp_sec 4 nbBody rfl ?_
    conv => arg 2; whnf
    go_wp2_with fail
    exact nb_5 w _ (Below.refl _ _) [45] n hz (by simp) R HE.out _ _ _ _ _ _ _ _ _ _ _ _ _ _ _ _ _ _ _ _ _ _ _ _ _ _
  · obtain ⟨n, hx⟩ : ∃ n : Nat, x = (n : Int) := ⟨x.toNat, by omega⟩
    have e : R = if n = 0 then [48] else [] ++ Ie.decs n := by
      rw [hR]
      unfold Ie.numTxt
      have : x.toNat = n := by omega
      rw [this, if_neg hn]
      by_cases hz : n = 0
      · rw [if_pos hz, if_pos (by omega)]
      · rw [if_neg hz, if_neg (by omega)]; rfl
    have HE := Lib.hid e
    have hz : n ≤ 4294967296 := by omega
    clear e hR
    subst hx
    go_enter Tryz.func20, Tryz.ntmps20
    show Code.wp Tryz.prog (secs 0 nbBody) _ _ _
    refine wp_sec 0 nbBody rfl ?_
    conv => arg 2; whnf
    go_wp2_with fail
    refine wp_sec 1 nbBody rfl ?_
    conv => arg 2; whnf
    go_wp2_with fail
    refine wp_sec 2 nbBody rfl ?_
    conv => arg 2; whnf
    go_wp2_with fail
    refine wp_sec 3 nbBody rfl ?_
    conv => arg 2; whnf
    go_wp2_with fail
    refine wp_sec 4 nbBody rfl ?_
    conv => arg 2; whnf
    go_wp2_with fail
    exact nb_5 w _ (Below.refl _ _) [] n hz (by simp) R HE.out _ _ _ _ _ _ _ _ _ _ _ _ _ _ _ _ _ _ _ _ _ _ _ _ _ _
end Go.Proofs.YtognifnalfjdgaaGreatDoor

/- What is proved: what is not asked is not worked out (IfexprLazy). -/
namespace Go.Proofs.YtognifnalfjdgaaGreatDoor
open Go.RowKit Go.Shelf
namespace Ie
theorem evx_rest (s : ByteArray) (x : Int) (h0 : -2147483648 ≤ x) (h1 : x ≤ 2147483647) (R : List UInt8) (C : List K) (X : E → E) (hR : 10 ∉ R) (hC : (Lx.tb false R).map kOf = C) (hp : ∀ p d, expr 61 (inLine (brk p d ++ C)) = some (X (nm p d), [])) (hb : (X (numE x)).isBad = false) (hs : s.data.toList = 40 :: (numTxt x ++ 41 :: R)) : evx s = said (comes (X (numE x))) := by
  rw [evx_tb s _ hs]
  · congr 1
    have e : (Lx.tb false (40 :: (numTxt x ++ 41 :: R))).map kOf = pt sLp :: (numT x ++ pt sRp :: C) := by
      rw [tb_lp, List.map_cons, tb_numTxt x h0 h1, tb_rp, List.map_cons, hC]
      rfl
    obtain ⟨p, d, e1, n1⟩ := numbrk x h0 h1 C
    rw [e, e1, ← n1]
    exact eval_of (hp p d) (by rw [n1]; exact hb)
  · simp only [List.mem_cons, List.mem_append]
    have z1 := numTxt_nl x 10
    rintro (h | h | h | h)
    · exact absurd h (by decide)
    · exact z1 h rfl
    · exact absurd h (by decide)
    · exact hR h
def rs1 : List UInt8 := [32, 63, 32, 51, 32, 58, 32, 49, 32, 47, 32, 48]
def rs2 : List UInt8 := [32, 63, 32, 49, 32, 47, 32, 48, 32, 58, 32, 52]
def rs3 : List UInt8 := [32, 124, 124, 32, 49, 32, 37, 32, 48]
def rs4 : List UInt8 := [32, 38, 38, 32, 49, 32, 60, 60, 32, 54, 52]
def ck1 : List K := [pt sAsk, nt ⟨#[51]⟩, pt sCol, nt ⟨#[49]⟩, pt sQuo, nt ⟨#[48]⟩]
def ck2 : List K := [pt sAsk, nt ⟨#[49]⟩, pt sQuo, nt ⟨#[48]⟩, pt sCol, nt ⟨#[52]⟩]
def ck3 : List K := [pt sOr, nt ⟨#[49]⟩, pt sRem, nt ⟨#[48]⟩]
def ck4 : List K := [pt sAnd, nt ⟨#[49]⟩, pt sShl, nt ⟨#[54, 52]⟩]
def ex1 (e : E) : E := .ask e (.num 3) (.bin sQuo (.num 1) (.num 0))
def ex2 (e : E) : E := .ask e (.bin sQuo (.num 1) (.num 0)) (.num 4)
def ex3 (e : E) : E := .bin sOr e (.bin sRem (.num 1) (.num 0))
def ex4 (e : E) : E := .bin sAnd e (.bin sShl (.num 1) (.num 64))
theorem pa1t (d : ByteArray) : expr 61 (inLine (brk true d ++ ck1)) = some (ex1 (nm true d), []) := by kernel_rfl
theorem pa1f (d : ByteArray) : expr 61 (inLine (brk false d ++ ck1)) = some (ex1 (nm false d), []) := by kernel_rfl
theorem pa2t (d : ByteArray) : expr 61 (inLine (brk true d ++ ck2)) = some (ex2 (nm true d), []) := by kernel_rfl
theorem pa2f (d : ByteArray) : expr 61 (inLine (brk false d ++ ck2)) = some (ex2 (nm false d), []) := by kernel_rfl
theorem pa3t (d : ByteArray) : expr 61 (inLine (brk true d ++ ck3)) = some (ex3 (nm true d), []) := by kernel_rfl
theorem pa3f (d : ByteArray) : expr 61 (inLine (brk false d ++ ck3)) = some (ex3 (nm false d), []) := by kernel_rfl
theorem pa4t (d : ByteArray) : expr 61 (inLine (brk true d ++ ck4)) = some (ex4 (nm true d), []) := by kernel_rfl
theorem pa4f (d : ByteArray) : expr 61 (inLine (brk false d ++ ck4)) = some (ex4 (nm false d), []) := by kernel_rfl
theorem tk1 : (Lx.tb false rs1).map kOf = ck1 := by kernel_rfl
theorem tk2 : (Lx.tb false rs2).map kOf = ck2 := by kernel_rfl
theorem tk3 : (Lx.tb false rs3).map kOf = ck3 := by kernel_rfl
theorem tk4 : (Lx.tb false rs4).map kOf = ck4 := by kernel_rfl
theorem z10 : comes (.bin sQuo (.num 1) (.num 0)) = (0, 92) := by kernel_rfl
theorem z11 : comes (.bin sRem (.num 1) (.num 0)) = (0, 92) := by kernel_rfl
theorem z12 : comes (.bin sShl (.num 1) (.num 64)) = (0, 93) := by kernel_rfl
theorem comes_ask9 (a y z : E) (x : Int) (h : comes a = (x, 0)) : comes (.ask a y z) = if x ≠ 0 then comes y else comes z := by
  show (if (comes a).2 ≠ 0 then ((0 : Int), (comes a).2) else if (comes a).1 ≠ 0 then comes y else comes z) = _
  rw [h]
  rfl
theorem comes_bin9 (s : ByteArray) (a y : E) (x : Int) (h : comes a = (x, 0)) : comes (.bin s a y) = match early s x with | some n => (n, 0) | none => if (comes y).2 ≠ 0 then (0, (comes y).2) else two s x (comes y).1 := by
  show (if (comes a).2 ≠ 0 then ((0 : Int), (comes a).2) else match early s (comes a).1 with | some n => (n, 0) | none => if (comes y).2 ≠ 0 then (0, (comes y).2) else two s (comes a).1 (comes y).1) = _
  rw [h]
  rfl
variable (x : Int) (h0 : -2147483648 ≤ x) (h1 : x ≤ 2147483647)
include h0 h1
theorem lz1 (s : ByteArray) (hs : s.data.toList = 40 :: (numTxt x ++ 41 :: rs1)) : evx s = if x = 0 then -1092 else 3 := by
  rw [evx_rest s x h0 h1 rs1 ck1 ex1 (by decide) tk1 (fun p d => by cases p; exact pa1f d; exact pa1t d) (by show ((numE x).isBad || _) = false; rw [numE_bad]; rfl) hs]
  unfold ex1
  rw [comes_ask9 _ _ _ x (numE_comes x h0 h1), z10]
  by_cases hx : x = 0
  · rw [if_pos hx, if_neg (fun h => h hx)]; rfl
  · rw [if_neg hx, if_pos hx]; rfl
theorem lz2 (s : ByteArray) (hs : s.data.toList = 40 :: (numTxt x ++ 41 :: rs2)) : evx s = if x = 0 then 4 else -1092 := by
  rw [evx_rest s x h0 h1 rs2 ck2 ex2 (by decide) tk2 (fun p d => by cases p; exact pa2f d; exact pa2t d) (by show ((numE x).isBad || _) = false; rw [numE_bad]; rfl) hs]
  unfold ex2
  rw [comes_ask9 _ _ _ x (numE_comes x h0 h1), z10]
  by_cases hx : x = 0
  · rw [if_pos hx, if_neg (fun h => h hx)]; rfl
  · rw [if_neg hx, if_pos hx]; rfl
theorem lz3 (s : ByteArray) (hs : s.data.toList = 40 :: (numTxt x ++ 41 :: rs3)) : evx s = if x = 0 then -1092 else 1 := by
  rw [evx_rest s x h0 h1 rs3 ck3 ex3 (by decide) tk3 (fun p d => by cases p; exact pa3f d; exact pa3t d) (by show ((numE x).isBad || _) = false; rw [numE_bad]; rfl) hs]
  unfold ex3
  rw [comes_bin9 _ _ _ x (numE_comes x h0 h1), z11]
  by_cases hx : x = 0
  · rw [if_pos hx]
    have e : early sOr x = none := by rw [hx]; rfl
    rw [e]; rfl
  · rw [if_neg hx]
    have e : early sOr x = some 1 := if_pos ⟨rfl, hx⟩
    rw [e]; rfl
theorem lz4 (s : ByteArray) (hs : s.data.toList = 40 :: (numTxt x ++ 41 :: rs4)) : evx s = if x = 0 then 0 else -1093 := by
  rw [evx_rest s x h0 h1 rs4 ck4 ex4 (by decide) tk4 (fun p d => by cases p; exact pa4f d; exact pa4t d) (by show ((numE x).isBad || _) = false; rw [numE_bad]; rfl) hs]
  unfold ex4
  rw [comes_bin9 _ _ _ x (numE_comes x h0 h1), z12]
  by_cases hx : x = 0
  · rw [if_pos hx]
    have e : early sAnd x = some 0 := by rw [hx]; rfl
    rw [e]; rfl
  · rw [if_neg hx]
    have e : early sAnd x = none := by
      unfold early
      rw [if_neg (fun h => absurd h.1 (by decide)), if_neg (fun h => hx h.2)]
    rw [e]; rfl
end Ie

noncomputable def lzBody : Code := Tryz.f7.body.getD .skip

set_option maxRecDepth 100000 in
set_option maxHeartbeats 4000000 in
theorem llazy_any (x : Int) (h0 : -2147483648 ≤ x) (h1 : x ≤ 2147483647) (w : World) (hG : Gv w) : Calls Tryz.prog 7 #[.int .i32 x] w (TruePost w) := by
  have K1 := Lib.hid (awake9_any w hG)
  have HG := Lib.hid hG
  clear hG
  obtain ⟨T, hT⟩ : ∃ T, T = Ie.numTxt x := ⟨_, rfl⟩
  have hl := Ie.numTxt_len x
  rw [← hT] at hl
  obtain ⟨N, hN⟩ : ∃ N, N = 40 :: (T ++ [41]) := ⟨_, rfl⟩
  have hNl : N.length ≤ 23 := by rw [hN]; simp; omega
  have hs : ∀ R : List UInt8, (⟨(N ++ R).toArray⟩ : ByteArray).data.toList = 40 :: (T ++ 41 :: R) := fun R => by
    rw [hN]
    show (40 :: (T ++ [41]) ++ R).toArray.toList = _
    simp
  have a1 : ∀ W, (Op.stringOp .add ⟨#[40]⟩ ⟨T.toArray⟩).run Tryz.prog W = .ok (.string ⟨(40 :: T).toArray⟩) W := fun W => add_run [40] T (by simp; omega) W
  have a2 : ∀ W, (Op.stringOp .add ⟨(40 :: T).toArray⟩ ⟨#[41]⟩).run Tryz.prog W = .ok (.string ⟨N.toArray⟩) W := fun W => by rw [hN]; exact add_run (40 :: T) [41] (by simp; omega) W
  have b1 : ∀ W, (Op.stringOp .add ⟨N.toArray⟩ ⟨#[32, 63, 32, 51, 32, 58, 32, 49, 32, 47, 32, 48]⟩).run Tryz.prog W = .ok (.string ⟨(N ++ Ie.rs1).toArray⟩) W := fun W => add_run N Ie.rs1 (by simp [Ie.rs1]; omega) W
  have b2 : ∀ W, (Op.stringOp .add ⟨N.toArray⟩ ⟨#[32, 63, 32, 49, 32, 47, 32, 48, 32, 58, 32, 52]⟩).run Tryz.prog W = .ok (.string ⟨(N ++ Ie.rs2).toArray⟩) W := fun W => add_run N Ie.rs2 (by simp [Ie.rs2]; omega) W
  have b3 : ∀ W, (Op.stringOp .add ⟨N.toArray⟩ ⟨#[32, 124, 124, 32, 49, 32, 37, 32, 48]⟩).run Tryz.prog W = .ok (.string ⟨(N ++ Ie.rs3).toArray⟩) W := fun W => add_run N Ie.rs3 (by simp [Ie.rs3]; omega) W
  have b4 : ∀ W, (Op.stringOp .add ⟨N.toArray⟩ ⟨#[32, 38, 38, 32, 49, 32, 60, 60, 32, 54, 52]⟩).run Tryz.prog W = .ok (.string ⟨(N ++ Ie.rs4).toArray⟩) W := fun W => add_run N Ie.rs4 (by simp [Ie.rs4]; omega) W
  have sz : ∀ R : List UInt8, R.length ≤ 20 → (⟨(N ++ R).toArray⟩ : ByteArray).size ≤ 1000000 := fun R h => by rw [mk_size, List.length_append]; omega
  rw [hT] at hs
  obtain ⟨y1, hy1⟩ : ∃ y : Int, y = if x = 0 then -1092 else 3 := ⟨_, rfl⟩
  obtain ⟨y2, hy2⟩ : ∃ y : Int, y = if x = 0 then 4 else -1092 := ⟨_, rfl⟩
  obtain ⟨y3, hy3⟩ : ∃ y : Int, y = if x = 0 then -1092 else 1 := ⟨_, rfl⟩
  obtain ⟨y4, hy4⟩ : ∃ y : Int, y = if x = 0 then 0 else -1093 := ⟨_, rfl⟩
  obtain ⟨s1, hs1⟩ : ∃ s : ByteArray, s = ⟨(N ++ Ie.rs1).toArray⟩ := ⟨_, rfl⟩
  obtain ⟨s2, hs2⟩ : ∃ s : ByteArray, s = ⟨(N ++ Ie.rs2).toArray⟩ := ⟨_, rfl⟩
  obtain ⟨s3, hs3⟩ : ∃ s : ByteArray, s = ⟨(N ++ Ie.rs3).toArray⟩ := ⟨_, rfl⟩
  obtain ⟨s4, hs4⟩ : ∃ s : ByteArray, s = ⟨(N ++ Ie.rs4).toArray⟩ := ⟨_, rfl⟩
  obtain ⟨S, hS⟩ : ∃ s : ByteArray, s = ⟨N.toArray⟩ := ⟨_, rfl⟩
  have E1 : Hid (∀ W, Gv W → Calls Tryz.prog 21 #[.string s1] W (IntPost y1 W)) := Lib.hid fun W h => by rw [hy1, hs1, ← Ie.lz1 x h0 h1 _ (hs Ie.rs1)]; exact evx_any _ (sz _ (by decide)) W h
  have E2 : Hid (∀ W, Gv W → Calls Tryz.prog 21 #[.string s2] W (IntPost y2 W)) := Lib.hid fun W h => by rw [hy2, hs2, ← Ie.lz2 x h0 h1 _ (hs Ie.rs2)]; exact evx_any _ (sz _ (by decide)) W h
  have E3 : Hid (∀ W, Gv W → Calls Tryz.prog 21 #[.string s3] W (IntPost y3 W)) := Lib.hid fun W h => by rw [hy3, hs3, ← Ie.lz3 x h0 h1 _ (hs Ie.rs3)]; exact evx_any _ (sz _ (by decide)) W h
  have E4 : Hid (∀ W, Gv W → Calls Tryz.prog 21 #[.string s4] W (IntPost y4 W)) := Lib.hid fun W h => by rw [hy4, hs4, ← Ie.lz4 x h0 h1 _ (hs Ie.rs4)]; exact evx_any _ (sz _ (by decide)) W h
  have NB : Hid (∀ W, Calls Tryz.prog 20 #[.int .i32 x] W (StrPost T W)) := Lib.hid fun W => by rw [hT]; exact inum_any x h0 h1 W
  rw [← hS] at a2 b1 b2 b3 b4
  rw [← hs1] at b1
  rw [← hs2] at b2
  rw [← hs3] at b3
  rw [← hs4] at b4
  clear hs hs1 hs2 hs3 hs4 sz hT hS hN hNl
  by_cases hx : x = 0
  · rw [if_pos hx] at hy1 hy2 hy3 hy4
    subst hx hy1 hy2 hy3 hy4
    go_enter Tryz.func7, Tryz.ntmps7
    go_wp2_with fail
    refine K1.out.mono ?_
    rintro e w1 ⟨rfl, hB1⟩
    have HB1 := Lib.hid hB1
    clear hB1
    go_wp2_with fail
    refine (NB.out _).mono ?_
    rintro e w2 ⟨rfl, hB2⟩
    have HB2 := Lib.hid (Below.then HB1.out hB2)
    clear hB2
    go_wp2_with fail
    refine (E1.out _ (HG.out.later HB2.out)).mono ?_
    rintro e w3 ⟨rfl, hB3⟩
    have HB3 := Lib.hid (Below.then HB2.out hB3)
    clear hB3
    go_wp2_with fail
    refine (E2.out _ (HG.out.later HB3.out)).mono ?_
    rintro e w4 ⟨rfl, hB4⟩
    have HB4 := Lib.hid (Below.then HB3.out hB4)
    clear hB4
    go_wp2_with fail
    refine (E3.out _ (HG.out.later HB4.out)).mono ?_
    rintro e w5 ⟨rfl, hB5⟩
    have HB5 := Lib.hid (Below.then HB4.out hB5)
    clear hB5
    go_wp2_with fail
    refine (E4.out _ (HG.out.later HB5.out)).mono ?_
    rintro e w6 ⟨rfl, hB6⟩
    have HB6 := Lib.hid (Below.then HB5.out hB6)
    clear hB6
    go_wp2_with fail
    go_ret
    exact ⟨rfl, HB6.out⟩
  · rw [if_neg hx] at hy1 hy2 hy3 hy4
    subst hy1 hy2 hy3 hy4
    go_enter Tryz.func7, Tryz.ntmps7
    go_wp2_with fail
    refine K1.out.mono ?_
    rintro e w1 ⟨rfl, hB1⟩
    have HB1 := Lib.hid hB1
    clear hB1
    go_wp2_with fail
    refine (NB.out _).mono ?_
    rintro e w2 ⟨rfl, hB2⟩
    have HB2 := Lib.hid (Below.then HB1.out hB2)
    clear hB2
    go_wp2_with fail
    refine (E1.out _ (HG.out.later HB2.out)).mono ?_
    rintro e w3 ⟨rfl, hB3⟩
    have HB3 := Lib.hid (Below.then HB2.out hB3)
    clear hB3
    go_wp2_with fail
    refine (E2.out _ (HG.out.later HB3.out)).mono ?_
    rintro e w4 ⟨rfl, hB4⟩
    have HB4 := Lib.hid (Below.then HB3.out hB4)
    clear hB4
    go_wp2_with fail
    refine (E3.out _ (HG.out.later HB4.out)).mono ?_
    rintro e w5 ⟨rfl, hB5⟩
    have HB5 := Lib.hid (Below.then HB4.out hB5)
    clear hB5
    go_wp2_with fail
    refine (E4.out _ (HG.out.later HB5.out)).mono ?_
    rintro e w6 ⟨rfl, hB6⟩
    have HB6 := Lib.hid (Below.then HB5.out hB6)
    clear hB6
    go_wp2_with fail
    go_ret
    exact ⟨rfl, HB6.out⟩
end Go.Proofs.YtognifnalfjdgaaGreatDoor

/- What is proved: what the document's own Two makes of two numbers. -/
namespace Go.Proofs.YtognifnalfjdgaaGreatDoor
open Go.RowKit Go.Shelf

namespace Ie
theorem w64_eq (n : Int) : w64 n = (n + 9223372036854775808) % 18446744073709551616 - 9223372036854775808 := IntKind.wrap_i64 n
theorem w64_off (n k : Int) : w64 (n + k * 18446744073709551616) = w64 n := by rw [w64_eq, w64_eq]; omega
theorem w64_part (n : Int) : ∃ k, w64 n = n + k * 18446744073709551616 := ⟨-((n + 9223372036854775808) / 18446744073709551616), by rw [w64_eq]; omega⟩
theorem w64_in {n : Int} (h : -9223372036854775808 ≤ n) (h' : n ≤ 9223372036854775807) : w64 n = n := by rw [w64_eq]; omega
theorem w64_lo (n : Int) : -9223372036854775808 ≤ w64 n := by rw [w64_eq]; omega
theorem w64_hi (n : Int) : w64 n ≤ 9223372036854775807 := by rw [w64_eq]; omega
theorem w64_mul (x y : Int) : w64 (w64 x * y) = w64 (x * y) := by
  obtain ⟨k, hk⟩ := w64_part x
  rw [hk, Int.add_mul, show k * 18446744073709551616 * y = (k * y) * 18446744073709551616 by rw [Int.mul_assoc, Int.mul_comm 18446744073709551616 y, ← Int.mul_assoc]]
  exact w64_off _ _
theorem w64_sub (x y : Int) : w64 (x - w64 y) = w64 (x - y) := by
  obtain ⟨k, hk⟩ := w64_part y
  rw [hk, show x - (y + k * 18446744073709551616) = (x - y) + (-k) * 18446744073709551616 by rw [Int.neg_mul]; omega]
  exact w64_off _ _
/-- A number that an int64 holds. -/
def InR (a : Int) : Prop := -9223372036854775808 ≤ a ∧ a ≤ 9223372036854775807
theorem tmod_in {a b : Int} (h : InR a) : InR (a.tmod b) := by
  have h1 : (a.tmod b).natAbs ≤ a.natAbs := by rw [Int.natAbs_tmod]; exact Nat.mod_le _ _
  unfold InR at h ⊢
  rcases Int.lt_or_le a 0 with ha | ha
  · have h2 := Int.tmod_nonneg b (show 0 ≤ -a by omega)
    rw [Int.neg_tmod] at h2
    omega
  · have h2 := Int.tmod_nonneg b ha
    omega
theorem rem_w64 {a b : Int} (h : InR a) : w64 (a - w64 (w64 (a.tdiv b) * b)) = a.tmod b := by
  have e := Int.tdiv_mul_add_tmod a b
  rw [w64_mul, w64_sub, show a - a.tdiv b * b = a.tmod b by omega]
  have h2 := tmod_in (b := b) h
  exact w64_in h2.1 h2.2
end Ie

theorem one9_any (b : Bool) (w : World) : Calls Tryz.prog 43 #[.bool b] w fun e w' => e = .returned (.int .i64 (Ie.one b)) ∧ w' = w := by
  go_enter Tryz.func43, Tryz.ntmps43
  cases b
  · go_wp2_with fail
    go_ret
    exact ⟨rfl, rfl⟩
  · go_wp2_with fail
    go_ret
    exact ⟨rfl, rfl⟩
def TwoPost (p : Int × Int) (w : World) (e : Ending) (w' : World) : Prop := e = .returned (.tuple #[.int .i64 p.1, .int .i64 p.2]) ∧ w' = w
theorem ne_dec (a b : Int) : (a != b) = decide (a ≠ b) := by by_cases h : a = b <;> simp [h]

set_option maxRecDepth 100000 in
set_option maxHeartbeats 1000000 in
theorem rtwo_or (s : ByteArray) (a b : Int) (w : World) (hs : s = Ie.sOr) : Calls Tryz.prog 22 #[.string s, .int .i64 a, .int .i64 b] w (TwoPost (Ie.two s a b) w) := by
  have ht : Ie.two s a b = (Ie.one (b != 0), 0) := by rw [hs]; show (Ie.one (decide (b ≠ 0)), (0 : Int)) = _; rw [ne_dec]
  have HT := Lib.hid ht
  have eOr : (s.toList == [124, 124]) = true := lit_yes hs
  clear ht hs
  go_enter Tryz.func22, Tryz.ntmps22
  go_wp2_with fail
  refine (one9_any _ _).mono ?_
  rintro e w' ⟨rfl, rfl⟩
  go_wp2_with fail
  go_ret2
  exact ⟨by rw [HT.out]; rfl, rfl⟩

set_option maxRecDepth 100000 in
set_option maxHeartbeats 1000000 in
theorem rtwo_and (s : ByteArray) (a b : Int) (w : World) (hs : s = Ie.sAnd) : Calls Tryz.prog 22 #[.string s, .int .i64 a, .int .i64 b] w (TwoPost (Ie.two s a b) w) := by
  have ht : Ie.two s a b = (Ie.one (b != 0), 0) := by rw [hs]; show (Ie.one (decide (b ≠ 0)), (0 : Int)) = _; rw [ne_dec]
  have HT := Lib.hid ht
  have eOr : (s.toList == [124, 124]) = false := lit_no (by rw [hs]; decide)
  have eAnd : (s.toList == [38, 38]) = true := lit_yes hs
  clear ht hs
  go_enter Tryz.func22, Tryz.ntmps22
  go_wp2_with fail
  refine (one9_any _ _).mono ?_
  rintro e w' ⟨rfl, rfl⟩
  go_wp2_with fail
  go_ret2
  exact ⟨by rw [HT.out]; rfl, rfl⟩

set_option maxRecDepth 100000 in
set_option maxHeartbeats 1000000 in
theorem rtwo_bar (s : ByteArray) (a b : Int) (w : World) (hs : s = Ie.sBar) : Calls Tryz.prog 22 #[.string s, .int .i64 a, .int .i64 b] w (TwoPost (Ie.two s a b) w) := by
  have ht : Ie.two s a b = (Ie.bits (· ||| ·) a b, 0) := by rw [hs]; rfl
  have HT := Lib.hid ht
  have eOr : (s.toList == [124, 124]) = false := lit_no (by rw [hs]; decide)
  have eAnd : (s.toList == [38, 38]) = false := lit_no (by rw [hs]; decide)
  have eBar : (s.toList == [124]) = true := lit_yes hs
  clear ht hs
  go_enter Tryz.func22, Tryz.ntmps22
  go_wp2_with fail
  go_ret2
  exact ⟨by rw [HT.out]; rfl, rfl⟩

set_option maxRecDepth 100000 in
set_option maxHeartbeats 1000000 in
theorem rtwo_hat (s : ByteArray) (a b : Int) (w : World) (hs : s = Ie.sHat) : Calls Tryz.prog 22 #[.string s, .int .i64 a, .int .i64 b] w (TwoPost (Ie.two s a b) w) := by
  have ht : Ie.two s a b = (Ie.bits (· ^^^ ·) a b, 0) := by rw [hs]; rfl
  have HT := Lib.hid ht
  have eOr : (s.toList == [124, 124]) = false := lit_no (by rw [hs]; decide)
  have eAnd : (s.toList == [38, 38]) = false := lit_no (by rw [hs]; decide)
  have eBar : (s.toList == [124]) = false := lit_no (by rw [hs]; decide)
  have eHat : (s.toList == [94]) = true := lit_yes hs
  clear ht hs
  go_enter Tryz.func22, Tryz.ntmps22
  go_wp2_with fail
  go_ret2
  exact ⟨by rw [HT.out]; rfl, rfl⟩

set_option maxRecDepth 100000 in
set_option maxHeartbeats 1000000 in
theorem rtwo_amp (s : ByteArray) (a b : Int) (w : World) (hs : s = Ie.sAmp) : Calls Tryz.prog 22 #[.string s, .int .i64 a, .int .i64 b] w (TwoPost (Ie.two s a b) w) := by
  have ht : Ie.two s a b = (Ie.bits (· &&& ·) a b, 0) := by rw [hs]; rfl
  have HT := Lib.hid ht
  have eOr : (s.toList == [124, 124]) = false := lit_no (by rw [hs]; decide)
  have eAnd : (s.toList == [38, 38]) = false := lit_no (by rw [hs]; decide)
  have eBar : (s.toList == [124]) = false := lit_no (by rw [hs]; decide)
  have eHat : (s.toList == [94]) = false := lit_no (by rw [hs]; decide)
  have eAmp : (s.toList == [38]) = true := lit_yes hs
  clear ht hs
  go_enter Tryz.func22, Tryz.ntmps22
  go_wp2_with fail
  go_ret2
  exact ⟨by rw [HT.out]; rfl, rfl⟩

set_option maxRecDepth 100000 in
set_option maxHeartbeats 1000000 in
theorem rtwo_eq (s : ByteArray) (a b : Int) (w : World) (hs : s = Ie.sEq) : Calls Tryz.prog 22 #[.string s, .int .i64 a, .int .i64 b] w (TwoPost (Ie.two s a b) w) := by
  have ht : Ie.two s a b = (Ie.one (a == b), 0) := by rw [hs]; rfl
  have HT := Lib.hid ht
  have eOr : (s.toList == [124, 124]) = false := lit_no (by rw [hs]; decide)
  have eAnd : (s.toList == [38, 38]) = false := lit_no (by rw [hs]; decide)
  have eBar : (s.toList == [124]) = false := lit_no (by rw [hs]; decide)
  have eHat : (s.toList == [94]) = false := lit_no (by rw [hs]; decide)
  have eAmp : (s.toList == [38]) = false := lit_no (by rw [hs]; decide)
  have eEq : (s.toList == [61, 61]) = true := lit_yes hs
  clear ht hs
  go_enter Tryz.func22, Tryz.ntmps22
  go_wp2_with fail
  refine (one9_any _ _).mono ?_
  rintro e w' ⟨rfl, rfl⟩
  go_wp2_with fail
  go_ret2
  exact ⟨by rw [HT.out]; rfl, rfl⟩

set_option maxRecDepth 100000 in
set_option maxHeartbeats 1000000 in
theorem rtwo_ne (s : ByteArray) (a b : Int) (w : World) (hs : s = Ie.sNe) : Calls Tryz.prog 22 #[.string s, .int .i64 a, .int .i64 b] w (TwoPost (Ie.two s a b) w) := by
  have ht : Ie.two s a b = (Ie.one (a != b), 0) := by rw [hs]; show (Ie.one (decide (a ≠ b)), (0 : Int)) = _; rw [ne_dec]
  have HT := Lib.hid ht
  have eOr : (s.toList == [124, 124]) = false := lit_no (by rw [hs]; decide)
  have eAnd : (s.toList == [38, 38]) = false := lit_no (by rw [hs]; decide)
  have eBar : (s.toList == [124]) = false := lit_no (by rw [hs]; decide)
  have eHat : (s.toList == [94]) = false := lit_no (by rw [hs]; decide)
  have eAmp : (s.toList == [38]) = false := lit_no (by rw [hs]; decide)
  have eEq : (s.toList == [61, 61]) = false := lit_no (by rw [hs]; decide)
  have eNe : (s.toList == [33, 61]) = true := lit_yes hs
  clear ht hs
  go_enter Tryz.func22, Tryz.ntmps22
  go_wp2_with fail
  refine (one9_any _ _).mono ?_
  rintro e w' ⟨rfl, rfl⟩
  go_wp2_with fail
  go_ret2
  exact ⟨by rw [HT.out]; rfl, rfl⟩

set_option maxRecDepth 100000 in
set_option maxHeartbeats 1000000 in
theorem rtwo_lt (s : ByteArray) (a b : Int) (w : World) (hs : s = Ie.sLt) : Calls Tryz.prog 22 #[.string s, .int .i64 a, .int .i64 b] w (TwoPost (Ie.two s a b) w) := by
  have ht : Ie.two s a b = (Ie.one (decide (a < b)), 0) := by rw [hs]; rfl
  have HT := Lib.hid ht
  have eOr : (s.toList == [124, 124]) = false := lit_no (by rw [hs]; decide)
  have eAnd : (s.toList == [38, 38]) = false := lit_no (by rw [hs]; decide)
  have eBar : (s.toList == [124]) = false := lit_no (by rw [hs]; decide)
  have eHat : (s.toList == [94]) = false := lit_no (by rw [hs]; decide)
  have eAmp : (s.toList == [38]) = false := lit_no (by rw [hs]; decide)
  have eEq : (s.toList == [61, 61]) = false := lit_no (by rw [hs]; decide)
  have eNe : (s.toList == [33, 61]) = false := lit_no (by rw [hs]; decide)
  have eLt : (s.toList == [60]) = true := lit_yes hs
  clear ht hs
  go_enter Tryz.func22, Tryz.ntmps22
  go_wp2_with fail
  refine (one9_any _ _).mono ?_
  rintro e w' ⟨rfl, rfl⟩
  go_wp2_with fail
  go_ret2
  exact ⟨by rw [HT.out]; rfl, rfl⟩

set_option maxRecDepth 100000 in
set_option maxHeartbeats 1000000 in
theorem rtwo_gt (s : ByteArray) (a b : Int) (w : World) (hs : s = Ie.sGt) : Calls Tryz.prog 22 #[.string s, .int .i64 a, .int .i64 b] w (TwoPost (Ie.two s a b) w) := by
  have ht : Ie.two s a b = (Ie.one (decide (b < a)), 0) := by rw [hs]; rfl
  have HT := Lib.hid ht
  have eOr : (s.toList == [124, 124]) = false := lit_no (by rw [hs]; decide)
  have eAnd : (s.toList == [38, 38]) = false := lit_no (by rw [hs]; decide)
  have eBar : (s.toList == [124]) = false := lit_no (by rw [hs]; decide)
  have eHat : (s.toList == [94]) = false := lit_no (by rw [hs]; decide)
  have eAmp : (s.toList == [38]) = false := lit_no (by rw [hs]; decide)
  have eEq : (s.toList == [61, 61]) = false := lit_no (by rw [hs]; decide)
  have eNe : (s.toList == [33, 61]) = false := lit_no (by rw [hs]; decide)
  have eLt : (s.toList == [60]) = false := lit_no (by rw [hs]; decide)
  have eGt : (s.toList == [62]) = true := lit_yes hs
  clear ht hs
  go_enter Tryz.func22, Tryz.ntmps22
  go_wp2_with fail
  refine (one9_any _ _).mono ?_
  rintro e w' ⟨rfl, rfl⟩
  go_wp2_with fail
  go_ret2
  exact ⟨by rw [HT.out]; rfl, rfl⟩

set_option maxRecDepth 100000 in
set_option maxHeartbeats 1000000 in
theorem rtwo_le (s : ByteArray) (a b : Int) (w : World) (hs : s = Ie.sLe) : Calls Tryz.prog 22 #[.string s, .int .i64 a, .int .i64 b] w (TwoPost (Ie.two s a b) w) := by
  have ht : Ie.two s a b = (Ie.one (decide (a ≤ b)), 0) := by rw [hs]; rfl
  have HT := Lib.hid ht
  have eOr : (s.toList == [124, 124]) = false := lit_no (by rw [hs]; decide)
  have eAnd : (s.toList == [38, 38]) = false := lit_no (by rw [hs]; decide)
  have eBar : (s.toList == [124]) = false := lit_no (by rw [hs]; decide)
  have eHat : (s.toList == [94]) = false := lit_no (by rw [hs]; decide)
  have eAmp : (s.toList == [38]) = false := lit_no (by rw [hs]; decide)
  have eEq : (s.toList == [61, 61]) = false := lit_no (by rw [hs]; decide)
  have eNe : (s.toList == [33, 61]) = false := lit_no (by rw [hs]; decide)
  have eLt : (s.toList == [60]) = false := lit_no (by rw [hs]; decide)
  have eGt : (s.toList == [62]) = false := lit_no (by rw [hs]; decide)
  have eLe : (s.toList == [60, 61]) = true := lit_yes hs
  clear ht hs
  go_enter Tryz.func22, Tryz.ntmps22
  go_wp2_with fail
  refine (one9_any _ _).mono ?_
  rintro e w' ⟨rfl, rfl⟩
  go_wp2_with fail
  go_ret2
  exact ⟨by rw [HT.out]; rfl, rfl⟩

set_option maxRecDepth 100000 in
set_option maxHeartbeats 1000000 in
theorem rtwo_ge (s : ByteArray) (a b : Int) (w : World) (hs : s = Ie.sGe) : Calls Tryz.prog 22 #[.string s, .int .i64 a, .int .i64 b] w (TwoPost (Ie.two s a b) w) := by
  have ht : Ie.two s a b = (Ie.one (decide (b ≤ a)), 0) := by rw [hs]; rfl
  have HT := Lib.hid ht
  have eOr : (s.toList == [124, 124]) = false := lit_no (by rw [hs]; decide)
  have eAnd : (s.toList == [38, 38]) = false := lit_no (by rw [hs]; decide)
  have eBar : (s.toList == [124]) = false := lit_no (by rw [hs]; decide)
  have eHat : (s.toList == [94]) = false := lit_no (by rw [hs]; decide)
  have eAmp : (s.toList == [38]) = false := lit_no (by rw [hs]; decide)
  have eEq : (s.toList == [61, 61]) = false := lit_no (by rw [hs]; decide)
  have eNe : (s.toList == [33, 61]) = false := lit_no (by rw [hs]; decide)
  have eLt : (s.toList == [60]) = false := lit_no (by rw [hs]; decide)
  have eGt : (s.toList == [62]) = false := lit_no (by rw [hs]; decide)
  have eLe : (s.toList == [60, 61]) = false := lit_no (by rw [hs]; decide)
  have eGe : (s.toList == [62, 61]) = true := lit_yes hs
  clear ht hs
  go_enter Tryz.func22, Tryz.ntmps22
  go_wp2_with fail
  refine (one9_any _ _).mono ?_
  rintro e w' ⟨rfl, rfl⟩
  go_wp2_with fail
  go_ret2
  exact ⟨by rw [HT.out]; rfl, rfl⟩

set_option maxRecDepth 100000 in
set_option maxHeartbeats 1000000 in
theorem rtwo_add (s : ByteArray) (a b : Int) (w : World) (hs : s = Ie.sAdd) : Calls Tryz.prog 22 #[.string s, .int .i64 a, .int .i64 b] w (TwoPost (Ie.two s a b) w) := by
  have ht : Ie.two s a b = (Ie.w64 (a + b), 0) := by rw [hs]; rfl
  have HT := Lib.hid ht
  have eOr : (s.toList == [124, 124]) = false := lit_no (by rw [hs]; decide)
  have eAnd : (s.toList == [38, 38]) = false := lit_no (by rw [hs]; decide)
  have eBar : (s.toList == [124]) = false := lit_no (by rw [hs]; decide)
  have eHat : (s.toList == [94]) = false := lit_no (by rw [hs]; decide)
  have eAmp : (s.toList == [38]) = false := lit_no (by rw [hs]; decide)
  have eEq : (s.toList == [61, 61]) = false := lit_no (by rw [hs]; decide)
  have eNe : (s.toList == [33, 61]) = false := lit_no (by rw [hs]; decide)
  have eLt : (s.toList == [60]) = false := lit_no (by rw [hs]; decide)
  have eGt : (s.toList == [62]) = false := lit_no (by rw [hs]; decide)
  have eLe : (s.toList == [60, 61]) = false := lit_no (by rw [hs]; decide)
  have eGe : (s.toList == [62, 61]) = false := lit_no (by rw [hs]; decide)
  have eAdd : (s.toList == [43]) = true := lit_yes hs
  clear ht hs
  go_enter Tryz.func22, Tryz.ntmps22
  go_wp2_with fail
  go_ret2
  exact ⟨by rw [HT.out, ← wrap64_w]; rfl, rfl⟩

set_option maxRecDepth 100000 in
set_option maxHeartbeats 1000000 in
theorem rtwo_sub (s : ByteArray) (a b : Int) (w : World) (hs : s = Ie.sSub) : Calls Tryz.prog 22 #[.string s, .int .i64 a, .int .i64 b] w (TwoPost (Ie.two s a b) w) := by
  have ht : Ie.two s a b = (Ie.w64 (a - b), 0) := by rw [hs]; rfl
  have HT := Lib.hid ht
  have eOr : (s.toList == [124, 124]) = false := lit_no (by rw [hs]; decide)
  have eAnd : (s.toList == [38, 38]) = false := lit_no (by rw [hs]; decide)
  have eBar : (s.toList == [124]) = false := lit_no (by rw [hs]; decide)
  have eHat : (s.toList == [94]) = false := lit_no (by rw [hs]; decide)
  have eAmp : (s.toList == [38]) = false := lit_no (by rw [hs]; decide)
  have eEq : (s.toList == [61, 61]) = false := lit_no (by rw [hs]; decide)
  have eNe : (s.toList == [33, 61]) = false := lit_no (by rw [hs]; decide)
  have eLt : (s.toList == [60]) = false := lit_no (by rw [hs]; decide)
  have eGt : (s.toList == [62]) = false := lit_no (by rw [hs]; decide)
  have eLe : (s.toList == [60, 61]) = false := lit_no (by rw [hs]; decide)
  have eGe : (s.toList == [62, 61]) = false := lit_no (by rw [hs]; decide)
  have eAdd : (s.toList == [43]) = false := lit_no (by rw [hs]; decide)
  have eSub : (s.toList == [45]) = true := lit_yes hs
  clear ht hs
  go_enter Tryz.func22, Tryz.ntmps22
  go_wp2_with fail
  go_ret2
  exact ⟨by rw [HT.out, ← wrap64_w]; rfl, rfl⟩

set_option maxRecDepth 100000 in
set_option maxHeartbeats 1000000 in
theorem rtwo_mul (s : ByteArray) (a b : Int) (w : World) (hs : s = Ie.sMul) : Calls Tryz.prog 22 #[.string s, .int .i64 a, .int .i64 b] w (TwoPost (Ie.two s a b) w) := by
  have ht : Ie.two s a b = (Ie.w64 (a * b), 0) := by rw [hs]; rfl
  have HT := Lib.hid ht
  have eOr : (s.toList == [124, 124]) = false := lit_no (by rw [hs]; decide)
  have eAnd : (s.toList == [38, 38]) = false := lit_no (by rw [hs]; decide)
  have eBar : (s.toList == [124]) = false := lit_no (by rw [hs]; decide)
  have eHat : (s.toList == [94]) = false := lit_no (by rw [hs]; decide)
  have eAmp : (s.toList == [38]) = false := lit_no (by rw [hs]; decide)
  have eEq : (s.toList == [61, 61]) = false := lit_no (by rw [hs]; decide)
  have eNe : (s.toList == [33, 61]) = false := lit_no (by rw [hs]; decide)
  have eLt : (s.toList == [60]) = false := lit_no (by rw [hs]; decide)
  have eGt : (s.toList == [62]) = false := lit_no (by rw [hs]; decide)
  have eLe : (s.toList == [60, 61]) = false := lit_no (by rw [hs]; decide)
  have eGe : (s.toList == [62, 61]) = false := lit_no (by rw [hs]; decide)
  have eAdd : (s.toList == [43]) = false := lit_no (by rw [hs]; decide)
  have eSub : (s.toList == [45]) = false := lit_no (by rw [hs]; decide)
  have eMul : (s.toList == [42]) = true := lit_yes hs
  clear ht hs
  go_enter Tryz.func22, Tryz.ntmps22
  go_wp2_with fail
  go_ret2
  exact ⟨by rw [HT.out, ← wrap64_w]; rfl, rfl⟩

set_option maxRecDepth 100000 in
set_option maxHeartbeats 4000000 in
theorem rtwo_shl (s : ByteArray) (a b : Int) (w : World) (ha : Ie.InR a) (hs : s = Ie.sShl) : Calls Tryz.prog 22 #[.string s, .int .i64 a, .int .i64 b] w (TwoPost (Ie.two s a b) w) := by
  have ht : Ie.two s a b = if b < 0 ∨ 63 < b then (0, 93) else (Ie.w64 (a * 2 ^ b.toNat), 0) := by rw [hs]; rfl
  have eOr : (s.toList == [124, 124]) = false := lit_no (by rw [hs]; decide)
  have eAnd : (s.toList == [38, 38]) = false := lit_no (by rw [hs]; decide)
  have eBar : (s.toList == [124]) = false := lit_no (by rw [hs]; decide)
  have eHat : (s.toList == [94]) = false := lit_no (by rw [hs]; decide)
  have eAmp : (s.toList == [38]) = false := lit_no (by rw [hs]; decide)
  have eEq : (s.toList == [61, 61]) = false := lit_no (by rw [hs]; decide)
  have eNe : (s.toList == [33, 61]) = false := lit_no (by rw [hs]; decide)
  have eLt : (s.toList == [60]) = false := lit_no (by rw [hs]; decide)
  have eGt : (s.toList == [62]) = false := lit_no (by rw [hs]; decide)
  have eLe : (s.toList == [60, 61]) = false := lit_no (by rw [hs]; decide)
  have eGe : (s.toList == [62, 61]) = false := lit_no (by rw [hs]; decide)
  have eAdd : (s.toList == [43]) = false := lit_no (by rw [hs]; decide)
  have eSub : (s.toList == [45]) = false := lit_no (by rw [hs]; decide)
  have eMul : (s.toList == [42]) = false := lit_no (by rw [hs]; decide)
  have eShl : (s.toList == [60, 60]) = true := lit_yes hs
  clear hs
  by_cases hb : b < 0 ∨ 63 < b
  · rw [if_pos hb] at ht
    have HT := Lib.hid ht
    clear ht
    rcases hb with hb | hb
    all_goals
      go_enter Tryz.func22, Tryz.ntmps22
      go_wp2_with fail
      go_ret2
      exact ⟨by rw [HT.out]; rfl, rfl⟩
  · rw [if_neg hb] at ht
    obtain ⟨n, rfl⟩ : ∃ n : Nat, b = n := ⟨b.toNat, by omega⟩
    have hn : n ≤ 63 := by omega
    have HT := Lib.hid ht
    have z1 : ¬ ((n : Int) < 0) := by omega
    have z2 : ¬ (63 < (n : Int)) := by omega
    have HA := Lib.hid ha
    clear ht hb ha
    go_enter Tryz.func22, Tryz.ntmps22
    go_wp2_with fail
    go_loop [1, 8] (fun va vi => ∃ (k : Nat) (x : Int), va = .int .i64 x ∧ vi = .int .i64 k ∧ k ≤ n ∧ Hid (x = Ie.w64 (a * 2 ^ k))) (fun _ vi => n - (intOf vi).toNat)
    case atStart => exact ⟨0, a, rfl, rfl, Nat.zero_le _, Lib.hid (by rw [Int.pow_zero, Int.mul_one, Ie.w64_in HA.out.1 HA.out.2])⟩
    case round =>
      obtain ⟨k, x, rfl, rfl, hk, HX⟩ := hrel
      by_cases hlt : k < n
      · go_wp2_with fail
        go_round
        case rel =>
          refine ⟨k + 1, _, rfl, by go_num, by omega, Lib.hid ?_⟩
          rw [wrap64_w, HX.out, Ie.w64_mul, Int.pow_succ, Int.mul_assoc]
        case measure => simp [intOf]; omega
      · obtain rfl : k = n := by omega
        go_wp2_with fail
        go_ret2
        exact ⟨by rw [HT.out, HX.out]; rfl, rfl⟩

set_option maxRecDepth 100000 in
set_option maxHeartbeats 4000000 in
theorem rtwo_shr (s : ByteArray) (a b : Int) (w : World) (ha : Ie.InR a) (hs : s = Ie.sShr) : Calls Tryz.prog 22 #[.string s, .int .i64 a, .int .i64 b] w (TwoPost (Ie.two s a b) w) := by
  have ht : Ie.two s a b = if b < 0 ∨ 63 < b then (0, 93) else (a / 2 ^ b.toNat, 0) := by rw [hs]; rfl
  have eOr : (s.toList == [124, 124]) = false := lit_no (by rw [hs]; decide)
  have eAnd : (s.toList == [38, 38]) = false := lit_no (by rw [hs]; decide)
  have eBar : (s.toList == [124]) = false := lit_no (by rw [hs]; decide)
  have eHat : (s.toList == [94]) = false := lit_no (by rw [hs]; decide)
  have eAmp : (s.toList == [38]) = false := lit_no (by rw [hs]; decide)
  have eEq : (s.toList == [61, 61]) = false := lit_no (by rw [hs]; decide)
  have eNe : (s.toList == [33, 61]) = false := lit_no (by rw [hs]; decide)
  have eLt : (s.toList == [60]) = false := lit_no (by rw [hs]; decide)
  have eGt : (s.toList == [62]) = false := lit_no (by rw [hs]; decide)
  have eLe : (s.toList == [60, 61]) = false := lit_no (by rw [hs]; decide)
  have eGe : (s.toList == [62, 61]) = false := lit_no (by rw [hs]; decide)
  have eAdd : (s.toList == [43]) = false := lit_no (by rw [hs]; decide)
  have eSub : (s.toList == [45]) = false := lit_no (by rw [hs]; decide)
  have eMul : (s.toList == [42]) = false := lit_no (by rw [hs]; decide)
  have eShl : (s.toList == [60, 60]) = false := lit_no (by rw [hs]; decide)
  have eShr : (s.toList == [62, 62]) = true := lit_yes hs
  clear hs
  by_cases hb : b < 0 ∨ 63 < b
  · rw [if_pos hb] at ht
    have HT := Lib.hid ht
    clear ht
    rcases hb with hb | hb
    all_goals
      go_enter Tryz.func22, Tryz.ntmps22
      go_wp2_with fail
      go_ret2
      exact ⟨by rw [HT.out]; rfl, rfl⟩
  · rw [if_neg hb] at ht
    obtain ⟨n, rfl⟩ : ∃ n : Nat, b = n := ⟨b.toNat, by omega⟩
    have hn : n ≤ 63 := by omega
    have HT := Lib.hid ht
    have z1 : ¬ ((n : Int) < 0) := by omega
    have z2 : ¬ (63 < (n : Int)) := by omega
    have HA := Lib.hid ha
    clear ht hb ha
    go_enter Tryz.func22, Tryz.ntmps22
    go_wp2_with fail
    go_loop [1, 8] (fun va vi => ∃ (k : Nat) (x : Int), va = .int .i64 x ∧ vi = .int .i64 k ∧ k ≤ n ∧ Hid (x = a / 2 ^ k)) (fun _ vi => n - (intOf vi).toNat)
    case atStart => exact ⟨0, a, rfl, rfl, Nat.zero_le _, Lib.hid (by rw [Int.pow_zero, Int.ediv_one])⟩
    case round =>
      obtain ⟨k, x, rfl, rfl, hk, HX⟩ := hrel
      by_cases hlt : k < n
      · go_wp2_with fail
        go_round
        case rel =>
          refine ⟨k + 1, _, rfl, by go_num, by omega, Lib.hid ?_⟩
          rw [HX.out, Int.pow_succ, ← Int.ediv_ediv_of_nonneg (Int.le_of_lt (Int.pow_pos (by decide)))]
        case measure => simp [intOf]; omega
      · obtain rfl : k = n := by omega
        go_wp2_with fail
        go_ret2
        exact ⟨by rw [HT.out, HX.out]; rfl, rfl⟩

set_option maxRecDepth 100000 in
set_option maxHeartbeats 1000000 in
theorem rtwo_quo (s : ByteArray) (a b : Int) (w : World) (ha : Ie.InR a) (hs : s = Ie.sQuo) : Calls Tryz.prog 22 #[.string s, .int .i64 a, .int .i64 b] w (TwoPost (Ie.two s a b) w) := by
  have ht : Ie.two s a b = if b = 0 then (0, 92) else (Ie.w64 (a.tdiv b), 0) := by rw [hs]; rfl
  have eOr : (s.toList == [124, 124]) = false := lit_no (by rw [hs]; decide)
  have eAnd : (s.toList == [38, 38]) = false := lit_no (by rw [hs]; decide)
  have eBar : (s.toList == [124]) = false := lit_no (by rw [hs]; decide)
  have eHat : (s.toList == [94]) = false := lit_no (by rw [hs]; decide)
  have eAmp : (s.toList == [38]) = false := lit_no (by rw [hs]; decide)
  have eEq : (s.toList == [61, 61]) = false := lit_no (by rw [hs]; decide)
  have eNe : (s.toList == [33, 61]) = false := lit_no (by rw [hs]; decide)
  have eLt : (s.toList == [60]) = false := lit_no (by rw [hs]; decide)
  have eGt : (s.toList == [62]) = false := lit_no (by rw [hs]; decide)
  have eLe : (s.toList == [60, 61]) = false := lit_no (by rw [hs]; decide)
  have eGe : (s.toList == [62, 61]) = false := lit_no (by rw [hs]; decide)
  have eAdd : (s.toList == [43]) = false := lit_no (by rw [hs]; decide)
  have eSub : (s.toList == [45]) = false := lit_no (by rw [hs]; decide)
  have eMul : (s.toList == [42]) = false := lit_no (by rw [hs]; decide)
  have eShl : (s.toList == [60, 60]) = false := lit_no (by rw [hs]; decide)
  have eShr : (s.toList == [62, 62]) = false := lit_no (by rw [hs]; decide)
  have eQuo : (s.toList == [47]) = true := lit_yes hs
  clear hs
  have HA := Lib.hid ha
  clear ha
  by_cases hb : b = 0
  · rw [if_pos hb] at ht
    have HT := Lib.hid ht
    clear ht
    go_enter Tryz.func22, Tryz.ntmps22
    go_wp2_with fail
    go_ret2
    exact ⟨by rw [HT.out]; rfl, rfl⟩
  · rw [if_neg hb] at ht
    have HT := Lib.hid ht
    clear ht
    go_enter Tryz.func22, Tryz.ntmps22
    go_wp2_with fail
    go_ret2
    refine ⟨?_, rfl⟩
    rw [HT.out]
    rw [← wrap64_w]; rfl

set_option maxRecDepth 100000 in
set_option maxHeartbeats 1000000 in
theorem rtwo_rem (s : ByteArray) (a b : Int) (w : World) (ha : Ie.InR a) (hs : s = Ie.sRem) : Calls Tryz.prog 22 #[.string s, .int .i64 a, .int .i64 b] w (TwoPost (Ie.two s a b) w) := by
  have ht : Ie.two s a b = if b = 0 then (0, 92) else (a.tmod b, 0) := by rw [hs]; rfl
  have eOr : (s.toList == [124, 124]) = false := lit_no (by rw [hs]; decide)
  have eAnd : (s.toList == [38, 38]) = false := lit_no (by rw [hs]; decide)
  have eBar : (s.toList == [124]) = false := lit_no (by rw [hs]; decide)
  have eHat : (s.toList == [94]) = false := lit_no (by rw [hs]; decide)
  have eAmp : (s.toList == [38]) = false := lit_no (by rw [hs]; decide)
  have eEq : (s.toList == [61, 61]) = false := lit_no (by rw [hs]; decide)
  have eNe : (s.toList == [33, 61]) = false := lit_no (by rw [hs]; decide)
  have eLt : (s.toList == [60]) = false := lit_no (by rw [hs]; decide)
  have eGt : (s.toList == [62]) = false := lit_no (by rw [hs]; decide)
  have eLe : (s.toList == [60, 61]) = false := lit_no (by rw [hs]; decide)
  have eGe : (s.toList == [62, 61]) = false := lit_no (by rw [hs]; decide)
  have eAdd : (s.toList == [43]) = false := lit_no (by rw [hs]; decide)
  have eSub : (s.toList == [45]) = false := lit_no (by rw [hs]; decide)
  have eMul : (s.toList == [42]) = false := lit_no (by rw [hs]; decide)
  have eShl : (s.toList == [60, 60]) = false := lit_no (by rw [hs]; decide)
  have eShr : (s.toList == [62, 62]) = false := lit_no (by rw [hs]; decide)
  have eQuo : (s.toList == [47]) = false := lit_no (by rw [hs]; decide)
  clear hs
  have HA := Lib.hid ha
  clear ha
  by_cases hb : b = 0
  · rw [if_pos hb] at ht
    have HT := Lib.hid ht
    clear ht
    go_enter Tryz.func22, Tryz.ntmps22
    go_wp2_with fail
    go_ret2
    exact ⟨by rw [HT.out]; rfl, rfl⟩
  · rw [if_neg hb] at ht
    have HT := Lib.hid ht
    clear ht
    go_enter Tryz.func22, Tryz.ntmps22
    go_wp2_with fail
    go_ret2
    refine ⟨?_, rfl⟩
    rw [HT.out]
    rw [← Ie.rem_w64 HA.out, ← wrap64_w, ← wrap64_w, ← wrap64_w]; rfl

theorem rtwo_any (s : ByteArray) (a b : Int) (w : World) (ha : Ie.InR a) (hs : Ie.lvS s ≠ 0) : Calls Tryz.prog 22 #[.string s, .int .i64 a, .int .i64 b] w (TwoPost (Ie.two s a b) w) := by
  rcases lv_cases hs with h | h | (h | h | h | h | h | h) | (h | h) | (h | h) | (h | h | h | h | h | h)
  · exact rtwo_or s a b w h
  · exact rtwo_and s a b w h
  · exact rtwo_eq s a b w h
  · exact rtwo_ne s a b w h
  · exact rtwo_lt s a b w h
  · exact rtwo_gt s a b w h
  · exact rtwo_le s a b w h
  · exact rtwo_ge s a b w h
  · exact rtwo_shl s a b w ha h
  · exact rtwo_shr s a b w ha h
  · exact rtwo_quo s a b w ha h
  · exact rtwo_rem s a b w ha h
  · exact rtwo_bar s a b w h
  · exact rtwo_hat s a b w h
  · exact rtwo_amp s a b w h
  · exact rtwo_add s a b w h
  · exact rtwo_sub s a b w h
  · exact rtwo_mul s a b w h
end Go.Proofs.YtognifnalfjdgaaGreatDoor

/- What is proved: of two in brackets comes what the sign between makes of their values (IfexprTwo). -/
namespace Go.Proofs.YtognifnalfjdgaaGreatDoor
open Go.RowKit Go.Shelf

noncomputable def twBody : Code := Tryz.f6.body.getD .skip
def tw9 (s : ByteArray) (x m e : Int) : Int × Int := match Ie.early s x with | some n => (n, 0) | none => (m, e)

set_option maxRecDepth 100000 in
set_option maxHeartbeats 4000000 in
theorem tw_11 (w W : World) (hB : Below w.heap.size w W) (n m e : Int) (he0 : 0 ≤ e) (he1 : e ≤ 100) (hn : n = Ie.said (m, e)) (c0 c1 c2 c3 c4 c5 c6 c8 c9 c10 c11 c15 c16 c17 c18 c19 c20 c21 c22 c23 c24 c25 c26 c27 c28 c29 c30 c31 c32 c33 c34 c35 c36 c37 c38 c39 c40 c41 c42 c43 c44 c45 c46 c47 c48 c49 c50 c51 c52 c53 c54 c55 c56 c57 c58 c59 c60 c61 c62 c63 c64 c65 c66 c67 c68 c69 c70 c71 c72 c73 c74 c75 c76 c77 : Value) :
    Code.wp Tryz.prog (secs 11 twBody) (bodyPost Tryz.prog Tryz.f6 (TruePost w)) ⟨#[c0, c1, c2, c3, c4, c5, c6, .bool true, c8, c9, c10, c11, .int .i64 n, .int .i64 m, .int .i64 e, c15, c16, c17, c18, c19, c20, c21, c22, c23, c24, c25, c26, c27, c28, c29, c30, c31, c32, c33, c34, c35, c36, c37, c38, c39, c40, c41, c42, c43, c44, c45, c46, c47, c48, c49, c50, c51, c52, c53, c54, c55, c56, c57, c58, c59, c60, c61, c62, c63, c64, c65, c66, c67, c68, c69, c70, c71, c72, c73, c74, c75, c76, c77], []⟩ W := by
  have HB := Lib.hid hB
  clear hB
  by_cases hz : e = 0
  · have e1 : n = m := by rw [hn]; unfold Ie.said; rw [if_neg (fun h => h hz)]
    clear hn
    subst hz e1
    refine wp_sec 11 twBody rfl ?_
    conv => arg 2; whnf
    go_wp2_with fail
    refine wp_sec 12 twBody rfl ?_
    conv => arg 2; whnf
    go_wp2_with fail
    conv => arg 2; whnf
    go_wp2_with fail
    go_ret
    exact ⟨rfl, HB.out⟩
  · have e1 : n = -1000 - e := by rw [hn]; unfold Ie.said; rw [if_pos hz]
    clear hn
    subst e1
    refine wp_sec 11 twBody rfl ?_
    conv => arg 2; whnf
    go_wp2_with fail
    go_ret
    exact ⟨rfl, HB.out⟩

set_option maxRecDepth 100000 in
set_option maxHeartbeats 4000000 in
theorem tw_9 (w W : World) (hB : Below w.heap.size w W) (x : Int) (G : ByteArray) (n m e : Int) (he0 : 0 ≤ e) (he1 : e ≤ 100) (hn : n = Ie.said (tw9 G x m e)) (c1 c2 c3 c4 c5 c6 c8 c9 c10 c15 c16 c17 c18 c19 c20 c21 c22 c23 c24 c25 c26 c27 c28 c29 c30 c31 c32 c33 c34 c35 c36 c37 c38 c39 c40 c41 c42 c43 c44 c45 c46 c47 c48 c49 c50 c51 c52 c53 c54 c55 c56 c57 c58 c59 c60 c61 c62 c63 c64 c65 c66 c67 c68 c69 c70 c71 c72 c73 c74 c75 c76 c77 : Value) :
    Code.wp Tryz.prog (secs 9 twBody) (bodyPost Tryz.prog Tryz.f6 (TruePost w)) ⟨#[.int .i32 x, c1, c2, c3, c4, c5, c6, .bool true, c8, c9, c10, .string G, .int .i64 n, .int .i64 m, .int .i64 e, c15, c16, c17, c18, c19, c20, c21, c22, c23, c24, c25, c26, c27, c28, c29, c30, c31, c32, c33, c34, c35, c36, c37, c38, c39, c40, c41, c42, c43, c44, c45, c46, c47, c48, c49, c50, c51, c52, c53, c54, c55, c56, c57, c58, c59, c60, c61, c62, c63, c64, c65, c66, c67, c68, c69, c70, c71, c72, c73, c74, c75, c76, c77], []⟩ W := by
  have HB := Lib.hid hB
  clear hB
  by_cases h1 : G = Ie.sOr
  · subst h1
    unfold Ie.sOr at hn ⊢
    by_cases hx : x = 0
    · have e1 : n = Ie.said (m, e) := by rw [hn]; unfold tw9; rw [show Ie.early ⟨#[124, 124]⟩ x = none by rw [hx]; rfl]
      have HE := Lib.hid e1
      clear hn e1
      subst hx
      refine wp_sec 9 twBody rfl ?_
      conv => arg 2; whnf
      go_wp2_with fail
      refine wp_sec 10 twBody rfl ?_
      conv => arg 2; whnf
      go_wp2_with fail
      exact tw_11 w W HB.out n m e he0 he1 HE.out _ _ _ _ _ _ _ _ _ _ _ _ _ _ _ _ _ _ _ _ _ _ _ _ _ _ _ _ _ _ _ _ _ _ _ _ _ _ _ _ _ _ _ _ _ _ _ _ _ _ _ _ _ _ _ _ _ _ _ _ _ _ _ _ _ _ _ _ _ _ _ _ _ _
    · have e1 : n = Ie.said (1, 0) := by rw [hn]; unfold tw9; rw [show Ie.early ⟨#[124, 124]⟩ x = some 1 from if_pos ⟨rfl, hx⟩]
      have HE := Lib.hid e1
      clear hn e1
      refine wp_sec 9 twBody rfl ?_
      conv => arg 2; whnf
      go_wp2_with fail
      refine wp_sec 10 twBody rfl ?_
      conv => arg 2; whnf
      go_wp2_with fail
      exact tw_11 w W HB.out n 1 0 (Int.le_refl 0) (by decide) HE.out _ _ _ _ _ _ _ _ _ _ _ _ _ _ _ _ _ _ _ _ _ _ _ _ _ _ _ _ _ _ _ _ _ _ _ _ _ _ _ _ _ _ _ _ _ _ _ _ _ _ _ _ _ _ _ _ _ _ _ _ _ _ _ _ _ _ _ _ _ _ _ _ _ _
  · by_cases h2 : G = Ie.sAnd
    · subst h2
      unfold Ie.sAnd at hn ⊢
      by_cases hx : x = 0
      · have e1 : n = Ie.said (0, 0) := by rw [hn]; unfold tw9; rw [show Ie.early ⟨#[38, 38]⟩ x = some 0 by rw [hx]; rfl]
        have HE := Lib.hid e1
        clear hn e1
        subst hx
        refine wp_sec 9 twBody rfl ?_
        conv => arg 2; whnf
        go_wp2_with fail
        refine wp_sec 10 twBody rfl ?_
        conv => arg 2; whnf
        go_wp2_with fail
        exact tw_11 w W HB.out n 0 0 (Int.le_refl 0) (by decide) HE.out _ _ _ _ _ _ _ _ _ _ _ _ _ _ _ _ _ _ _ _ _ _ _ _ _ _ _ _ _ _ _ _ _ _ _ _ _ _ _ _ _ _ _ _ _ _ _ _ _ _ _ _ _ _ _ _ _ _ _ _ _ _ _ _ _ _ _ _ _ _ _ _ _ _
      · have e1 : n = Ie.said (m, e) := by
          rw [hn]; unfold tw9
          rw [show Ie.early ⟨#[38, 38]⟩ x = none by unfold Ie.early; rw [if_neg (fun h => absurd h.1 (by decide)), if_neg (fun h => hx h.2)]]
        have HE := Lib.hid e1
        clear hn e1
        refine wp_sec 9 twBody rfl ?_
        conv => arg 2; whnf
        go_wp2_with fail
        refine wp_sec 10 twBody rfl ?_
        conv => arg 2; whnf
        go_wp2_with fail
        exact tw_11 w W HB.out n m e he0 he1 HE.out _ _ _ _ _ _ _ _ _ _ _ _ _ _ _ _ _ _ _ _ _ _ _ _ _ _ _ _ _ _ _ _ _ _ _ _ _ _ _ _ _ _ _ _ _ _ _ _ _ _ _ _ _ _ _ _ _ _ _ _ _ _ _ _ _ _ _ _ _ _ _ _ _ _
    · have e1 : n = Ie.said (m, e) := by
        rw [hn]; unfold tw9
        rw [show Ie.early G x = none by unfold Ie.early; rw [if_neg (fun h => h1 h.1), if_neg (fun h => h2 h.1)]]
      have HE := Lib.hid e1
      have q1 : ¬ G.toList = [124, 124] := fun h => by
        have := lit_ne (a := G) (b := ⟨#[124, 124]⟩) h1
        rw [h] at this
        simp at this
      have q2 : ¬ G.toList = [38, 38] := fun h => by
        have := lit_ne (a := G) (b := ⟨#[38, 38]⟩) h2
        rw [h] at this
        simp at this
      clear hn e1 h1 h2
      refine wp_sec 9 twBody rfl ?_
      conv => arg 2; whnf
      go_wp2_with fail
      refine wp_sec 10 twBody rfl ?_
      conv => arg 2; whnf
      go_wp2_with fail
      exact tw_11 w W HB.out n m e he0 he1 HE.out _ _ _ _ _ _ _ _ _ _ _ _ _ _ _ _ _ _ _ _ _ _ _ _ _ _ _ _ _ _ _ _ _ _ _ _ _ _ _ _ _ _ _ _ _ _ _ _ _ _ _ _ _ _ _ _ _ _ _ _ _ _ _ _ _ _ _ _ _ _ _ _ _ _

def sgV : Array Value := #[.string ⟨#[124, 124]⟩, .string ⟨#[38, 38]⟩, .string ⟨#[124]⟩, .string ⟨#[94]⟩, .string ⟨#[38]⟩, .string ⟨#[61, 61]⟩, .string ⟨#[33, 61]⟩, .string ⟨#[60]⟩, .string ⟨#[62]⟩, .string ⟨#[60, 61]⟩, .string ⟨#[62, 61]⟩, .string ⟨#[60, 60]⟩, .string ⟨#[62, 62]⟩, .string ⟨#[43]⟩, .string ⟨#[45]⟩, .string ⟨#[42]⟩, .string ⟨#[47]⟩, .string ⟨#[37]⟩]
theorem sgV_at (k : Nat) (hk : k < 18) : sgV[k]? = some (.string (Ie.sgn k)) := by
  have hc : k = 0 ∨ k = 1 ∨ k = 2 ∨ k = 3 ∨ k = 4 ∨ k = 5 ∨ k = 6 ∨ k = 7 ∨ k = 8 ∨ k = 9 ∨ k = 10 ∨ k = 11 ∨ k = 12 ∨ k = 13 ∨ k = 14 ∨ k = 15 ∨ k = 16 ∨ k = 17 := by omega
  rcases hc with rfl | rfl | rfl | rfl | rfl | rfl | rfl | rfl | rfl | rfl | rfl | rfl | rfl | rfl | rfl | rfl | rfl | rfl <;> rfl
theorem sgn_lv (k : Nat) (hk : k < 18) : Ie.lvS (Ie.sgn k) ≠ 0 := by
  have hc : k = 0 ∨ k = 1 ∨ k = 2 ∨ k = 3 ∨ k = 4 ∨ k = 5 ∨ k = 6 ∨ k = 7 ∨ k = 8 ∨ k = 9 ∨ k = 10 ∨ k = 11 ∨ k = 12 ∨ k = 13 ∨ k = 14 ∨ k = 15 ∨ k = 16 ∨ k = 17 := by omega
  rcases hc with rfl | rfl | rfl | rfl | rfl | rfl | rfl | rfl | rfl | rfl | rfl | rfl | rfl | rfl | rfl | rfl | rfl | rfl <;> decide
theorem sgn_len (k : Nat) (hk : k < 18) : (Ie.sgn k).data.toList.length ≤ 2 := by
  have hc : k = 0 ∨ k = 1 ∨ k = 2 ∨ k = 3 ∨ k = 4 ∨ k = 5 ∨ k = 6 ∨ k = 7 ∨ k = 8 ∨ k = 9 ∨ k = 10 ∨ k = 11 ∨ k = 12 ∨ k = 13 ∨ k = 14 ∨ k = 15 ∨ k = 16 ∨ k = 17 := by omega
  rcases hc with rfl | rfl | rfl | rfl | rfl | rfl | rfl | rfl | rfl | rfl | rfl | rfl | rfl | rfl | rfl | rfl | rfl | rfl <;> decide

set_option maxRecDepth 100000 in
set_option maxHeartbeats 4000000 in
theorem ltwo_any (x y k : Int) (h0 : -2147483648 ≤ x) (h1 : x ≤ 2147483647) (g0 : -2147483648 ≤ y) (g1 : y ≤ 2147483647) (w : World) (hG : Gv w) : Calls Tryz.prog 6 #[.int .i32 x, .int .i32 y, .int .i64 k] w (TruePost w) := by
  have K1 := Lib.hid (awake9_any w hG)
  have HG := Lib.hid hG
  clear hG
  by_cases hk : 0 ≤ k ∧ k ≤ 17
  · obtain ⟨hk0, hk1⟩ := hk
    obtain ⟨j, rfl⟩ : ∃ j : Nat, k = j := ⟨k.toNat, by omega⟩
    have hj : j < 18 := by omega
    obtain ⟨A, hA⟩ : ∃ T, T = Ie.numTxt x := ⟨_, rfl⟩
    obtain ⟨B, hB⟩ : ∃ T, T = Ie.numTxt y := ⟨_, rfl⟩
    have la := Ie.numTxt_len x
    have lb := Ie.numTxt_len y
    rw [← hA] at la
    rw [← hB] at lb
    have lg := sgn_len j hj
    obtain ⟨g, hg⟩ : ∃ g, g = (Ie.sgn j).data.toList := ⟨_, rfl⟩
    rw [← hg] at lg
    obtain ⟨G, hGG⟩ : ∃ G, G = Ie.sgn j := ⟨_, rfl⟩
    have hGg : G = ⟨g.toArray⟩ := by rw [hGG, hg, Go.Lib.mk_data]
    obtain ⟨P2, h2⟩ : ∃ P, P = 40 :: A ++ [41] := ⟨_, rfl⟩
    have l2 : P2.length ≤ 23 := by rw [h2]; simp; omega
    obtain ⟨P3, h3⟩ : ∃ P, P = P2 ++ g := ⟨_, rfl⟩
    have l3 : P3.length ≤ 25 := by rw [h3]; simp; omega
    obtain ⟨P4, h4⟩ : ∃ P, P = P3 ++ [40] := ⟨_, rfl⟩
    have l4 : P4.length ≤ 26 := by rw [h4]; simp; omega
    obtain ⟨P5, h5⟩ : ∃ P, P = P4 ++ B := ⟨_, rfl⟩
    have l5 : P5.length ≤ 47 := by rw [h5]; simp; omega
    obtain ⟨P6, h6⟩ : ∃ P, P = P5 ++ [41] := ⟨_, rfl⟩
    have l6 : P6.length ≤ 48 := by rw [h6]; simp; omega
    have hP : P6 = Ie.two9 j x y := by
      rw [h6, h5, h4, h3, h2, hg, hA, hB]
      unfold Ie.two9
      simp
    have a1 : ∀ W, (Op.stringOp .add ⟨#[40]⟩ ⟨A.toArray⟩).run Tryz.prog W = .ok (.string ⟨(40 :: A).toArray⟩) W := fun W => add_run [40] A (by simp; omega) W
    have a2 : ∀ W, (Op.stringOp .add ⟨(40 :: A).toArray⟩ ⟨#[41]⟩).run Tryz.prog W = .ok (.string ⟨P2.toArray⟩) W := fun W => by rw [h2]; exact add_run (40 :: A) [41] (by simp; omega) W
    have a3 : ∀ W, (Op.stringOp .add ⟨P2.toArray⟩ G).run Tryz.prog W = .ok (.string ⟨P3.toArray⟩) W := fun W => by rw [h3, hGg]; exact add_run P2 g (by omega) W
    have a4 : ∀ W, (Op.stringOp .add ⟨P3.toArray⟩ ⟨#[40]⟩).run Tryz.prog W = .ok (.string ⟨P4.toArray⟩) W := fun W => by rw [h4]; exact add_run P3 [40] (by simp; omega) W
    have a5 : ∀ W, (Op.stringOp .add ⟨P4.toArray⟩ ⟨B.toArray⟩).run Tryz.prog W = .ok (.string ⟨P5.toArray⟩) W := fun W => by rw [h5]; exact add_run P4 B (by omega) W
    have a6 : ∀ W, (Op.stringOp .add ⟨P5.toArray⟩ ⟨#[41]⟩).run Tryz.prog W = .ok (.string ⟨P6.toArray⟩) W := fun W => by rw [h6]; exact add_run P5 [41] (by simp; omega) W
    obtain ⟨m, e, hme⟩ : ∃ m e, Ie.two G x y = (m, e) := ⟨_, _, rfl⟩
    have he := Ie.two_err G x y
    rw [hme] at he
    obtain ⟨he0, he1⟩ := he
    dsimp only at he0 he1
    obtain ⟨n, hn⟩ : ∃ n, n = Ie.said (tw9 G x m e) := ⟨_, rfl⟩
    have hev : Ie.evx ⟨P6.toArray⟩ = n := by
      rw [Ie.evx_two ⟨P6.toArray⟩ j hj x y h0 h1 g0 g1 (by rw [← hP]), hn, ← hGG, hme]
      rfl
    obtain ⟨S6, hS6⟩ : ∃ s : ByteArray, s = ⟨P6.toArray⟩ := ⟨_, rfl⟩
    have sz6 : S6.size ≤ 1000000 := by rw [hS6, mk_size]; omega
    rw [← hS6] at hev a6
    have E1 : Hid (∀ W, Gv W → Calls Tryz.prog 21 #[.string S6] W (IntPost n W)) := Lib.hid fun W h => by rw [← hev]; exact evx_any _ sz6 W h
    have NA : Hid (∀ W, Calls Tryz.prog 20 #[.int .i32 x] W (StrPost A W)) := Lib.hid fun W => by rw [hA]; exact inum_any x h0 h1 W
    have NB : Hid (∀ W, Calls Tryz.prog 20 #[.int .i32 y] W (StrPost B W)) := Lib.hid fun W => by rw [hB]; exact inum_any y g0 g1 W
    have TW : Hid (∀ W, Calls Tryz.prog 22 #[.string G, .int .i64 x, .int .i64 y] W (TwoPost (m, e) W)) := Lib.hid fun W => by rw [← hme]; exact rtwo_any G x y W ⟨by omega, by omega⟩ (by rw [hGG]; exact sgn_lv j hj)
    have HN := Lib.hid hn
    have HC : Hid (sgV[j]? = some (.string G)) := Lib.hid (by rw [hGG]; exact sgV_at j hj)
    clear hA hB hg hGG hGg h2 h3 h4 h5 h6 hP hme hn hev hS6 sz6 l2 l3 l4 l5 l6 la lb lg
    go_enter Tryz.func6, Tryz.ntmps6
    show Code.wp Tryz.prog (secs 0 twBody) _ _ _
    refine wp_sec 0 twBody rfl ?_
    conv => arg 2; whnf
    go_wp2_with fail
    refine wp_sec 1 twBody rfl ?_
    conv => arg 2; whnf
    go_wp2_with fail
    refine K1.out.mono ?_
    rintro ee w1 ⟨rfl, hB1⟩
    have HB1 := Lib.hid hB1
    clear hB1
    go_wp2_with fail
    refine wp_sec 2 twBody rfl ?_
    conv => arg 2; whnf
    go_wp2_with fail
    obtain ⟨V, hV⟩ : ∃ V, V = w1.alloc (.cells sgV 9) := ⟨_, rfl⟩
    have cV : V.cell? ⟨w1.heap.size, j, none⟩ = some (.string G) := by rw [hV, World.cell?_alloc_mark]; exact HC.out
    have hBV : Below w.heap.size w V := by rw [hV]; exact HB1.out.alloc HB1.out.size _
    have hb : w1.heap.size < V.heap.size := by rw [hV]; show w1.heap.size < (w1.heap.push _).size; simp
    unfold sgV at hV
    rw [← hV]
    obtain ⟨b, hbb⟩ : ∃ b, b = w1.heap.size := ⟨_, rfl⟩
    rw [← hbb] at cV hb ⊢
    have HBV := Lib.hid hBV
    have HCV := Lib.hid cV
    clear hV hBV cV hbb
    refine wp_sec 3 twBody rfl ?_
    conv => arg 2; whnf
    go_wp2_with fail
    refine wp_sec 4 twBody rfl ?_
    conv => arg 2; whnf
    go_wp2_with fail
    refine (NA.out _).mono ?_
    rintro ee w2 ⟨rfl, hB2⟩
    have HB2 := Lib.hid (Below.then HBV.out hB2)
    have HC2 : Hid (w2.cell? ⟨b, j, none⟩ = some (.string G)) := Lib.hid ((hB2.cell (p := ⟨b, j, none⟩) hb).trans HCV.out)
    have hb2 : b < w2.heap.size := Nat.lt_of_lt_of_le hb hB2.size
    clear hB2
    go_wp2_with fail
    refine wp_sec 5 twBody rfl ?_
    conv => arg 2; whnf
    go_wp2_with fail
    refine (NB.out _).mono ?_
    rintro ee w3 ⟨rfl, hB3⟩
    have HB3 := Lib.hid (Below.then HB2.out hB3)
    have c3 : w3.cell? ⟨b, j, none⟩ = some (.string G) := (hB3.cell (p := ⟨b, j, none⟩) hb2).trans HC2.out
    clear hB3
    go_wp2_with fail
    refine wp_sec 6 twBody rfl ?_
    conv => arg 2; whnf
    go_wp2_with fail
    refine wp_sec 7 twBody rfl ?_
    conv => arg 2; whnf
    go_wp2_with fail
    refine (E1.out _ (HG.out.later HB3.out)).mono ?_
    rintro ee w4 ⟨rfl, hB4⟩
    have HB4 := Lib.hid (Below.then HB3.out hB4)
    clear hB4
    go_wp2_with fail
    refine wp_sec 8 twBody rfl ?_
    conv => arg 2; whnf
    go_wp2_with fail
    refine (TW.out _).mono ?_
    rintro ee w5 ⟨rfl, rfl⟩
    go_wp2_with fail
    exact tw_9 w w5 HB4.out x G n m e he0 he1 HN.out _ _ _ _ _ _ _ _ _ _ _ _ _ _ _ _ _ _ _ _ _ _ _ _ _ _ _ _ _ _ _ _ _ _ _ _ _ _ _ _ _ _ _ _ _ _ _ _ _ _ _ _ _ _ _ _ _ _ _ _ _ _ _ _ _ _ _ _ _ _ _ _
  · have hkk : k < 0 ∨ (¬ k < 0 ∧ 17 < k) := by omega
    rcases hkk with hneg | ⟨hpos, hbig⟩
    · go_enter Tryz.func6, Tryz.ntmps6
      show Code.wp Tryz.prog (secs 0 twBody) _ _ _
      refine wp_sec 0 twBody rfl ?_
      conv => arg 2; whnf
      go_wp2_with fail
      refine wp_sec 1 twBody rfl ?_
      conv => arg 2; whnf
      go_wp2_with fail
      refine K1.out.mono ?_
      rintro ee w1 ⟨rfl, hB1⟩
      have HB1 := Lib.hid (hB1.alloc hB1.size (.cells sgV 9))
      unfold sgV at HB1
      clear hB1
      go_wp2_with fail
      refine wp_sec 2 twBody rfl ?_
      conv => arg 2; whnf
      go_wp2_with fail
      refine wp_sec 3 twBody rfl ?_
      conv => arg 2; whnf
      go_wp2_with fail
      go_ret
      exact ⟨rfl, HB1.out⟩
    · go_enter Tryz.func6, Tryz.ntmps6
      show Code.wp Tryz.prog (secs 0 twBody) _ _ _
      refine wp_sec 0 twBody rfl ?_
      conv => arg 2; whnf
      go_wp2_with fail
      refine wp_sec 1 twBody rfl ?_
      conv => arg 2; whnf
      go_wp2_with fail
      refine K1.out.mono ?_
      rintro ee w1 ⟨rfl, hB1⟩
      have HB1 := Lib.hid (hB1.alloc hB1.size (.cells sgV 9))
      unfold sgV at HB1
      clear hB1
      go_wp2_with fail
      refine wp_sec 2 twBody rfl ?_
      conv => arg 2; whnf
      go_wp2_with fail
      refine wp_sec 3 twBody rfl ?_
      conv => arg 2; whnf
      go_wp2_with fail
      go_ret
      exact ⟨rfl, HB1.out⟩
end Go.Proofs.YtognifnalfjdgaaGreatDoor
