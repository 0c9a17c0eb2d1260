/- What is proved: plain facts on an include's line: a name between quotes, or signs, is what it includes. -/
import Derived.Test.YtnkheejpmkflaaaDoorDn
import Derived.Test.YtnkheejpmkflaaaDoorD8
namespace Go.Proofs.YtnkheejpmkflaaaDoor.Dx
open Go.Lib
open Lx (tb)

theorem left_plain : ∀ (l : List UInt8), (∀ c ∈ l, c ≠ 92) → ∀ k, Lx.bytes (Sp.left k l) = l
  | [], _, k => rfl
  | c :: r, h, k => by
    have hp : hasPrefix (c :: r) [92, 10] = false := by
      cases hq : hasPrefix (c :: r) [92, 10] with
      | false => rfl
      | true =>
        obtain ⟨r', e⟩ := Sp.pair_form _ hq
        injection e with e _
        exact absurd e (h c (by simp))
    rw [Sp.left_one k c r hp]
    show c :: Lx.bytes (Sp.left (k + 1) r) = _
    rw [left_plain r (fun d hd => h d (List.mem_cons_of_mem _ hd)) (k + 1)]

/-- What of a token its line's meaning hangs on. -/
def kv (t : K) : Int × List UInt8 × Bool := (t.kind, t.text.data.toList, t.bl)
def conv (t : Nat × List UInt8 × Bool) : Int × List UInt8 × Bool := (t.1, t.2.1, t.2.2)
theorem ks_view (s : ByteArray) (h : ∀ c ∈ s.data.toList, c ≠ 92) : (ks s).map kv = (tb false s.data.toList).map conv := by
  have e := Lx.tk_al false (Sp.left 0 s.data.toList)
  rw [left_plain _ h] at e
  rw [← e]
  unfold ks
  rw [List.map_map, List.map_map]
  rfl

def inc : List UInt8 := [105, 110, 99, 108, 117, 100, 101]
theorem hash_tok (p : Bool) (c : UInt8) (X : List UInt8) (hc : c ≠ 35) : tb p (35 :: c :: X) = (5, [35], p) :: tb false (c :: X) := by
  have hs : Lx.signLen (35 :: c :: X) = 1 := by
    rw [Lx.sign_ref]
    have e1 : ¬ (35 : UInt8) = c := fun e => hc e.symm
    simp [Lx.refSign, Lx.threes, Lx.twos, Lx.ones, Lx.oneBytes, List.isPrefixOf, e1]
  have h1 : Lx.numLen (35 :: c :: X) = 0 := by rw [Lx.numLen_cons, show Lx.digit 35 = false by decide, show ((35 : UInt8) == 46) = false by decide]; simp
  have h2 : Lx.closedLen 34 (35 :: c :: X) = 0 := by rw [Lx.closedLen_cons, if_neg (by decide)]
  have h3 : Lx.closedLen 39 (35 :: c :: X) = 0 := by rw [Lx.closedLen_cons, if_neg (by decide)]
  have hf : Lx.first (35 :: c :: X) = (5, 1) := by
    rw [Lx.first_cons, if_neg (by decide), if_neg (by decide), h1, h2, h3, hs]
    simp
  rw [Lx.tb_tok p _ (by simp) (by rw [Lx.blankLen_cons, if_neg (by decide), Lx.commentLen_cons, if_neg (by simp), if_neg (by simp)]), hf]
  rfl
theorem blank_tok (p : Bool) (X : List UInt8) : tb p (32 :: X) = tb true X := by
  rw [Lx.tb_blank p _ (by rw [show Lx.blankLen (32 :: X) = 1 from rfl]; omega), show Lx.blankLen (32 :: X) = 1 from rfl]; rfl
theorem inc_tok (p : Bool) (X : List UInt8) : tb p (105 :: 110 :: 99 :: 108 :: 117 :: 100 :: 101 :: 32 :: X) = (1, inc, p) :: tb true X := by
  rw [Lx.tb_tok p _ (by simp) rfl, show Lx.first (105 :: 110 :: 99 :: 108 :: 117 :: 100 :: 101 :: 32 :: X) = (1, 7) from rfl]
  show (1, inc, p) :: tb false (32 :: X) = _
  rw [blank_tok]
theorem qr_name : ∀ (l z : List UInt8), (∀ c ∈ l, nameB c = true) → Lx.qr 34 (l ++ 34 :: z) = some (l.length + 1)
  | [], z, _ => by cases z <;> simp [Lx.qr]
  | [c], z, h => by
    have hb := nameB_cases c (h c (by simp))
    show Lx.qr 34 (c :: 34 :: z) = _
    unfold Lx.qr
    rw [if_neg hb.2.1, if_neg hb.2.2.1, if_neg hb.2.2.2.1]
    have := qr_name [] z (by simp)
    rw [List.nil_append] at this
    rw [this]; rfl
  | c :: d :: l, z, h => by
    have hb := nameB_cases c (h c (by simp))
    have := qr_name (d :: l) z (fun x hx => h x (List.mem_cons_of_mem _ hx))
    rw [List.cons_append] at this
    show Lx.qr 34 (c :: d :: (l ++ 34 :: z)) = _
    unfold Lx.qr
    rw [if_neg hb.2.1, if_neg hb.2.2.1, if_neg hb.2.2.2.1, this]; rfl
theorem quote_tok (p : Bool) (l z : List UInt8) (h : ∀ c ∈ l, nameB c = true) : tb p (34 :: (l ++ 34 :: z)) = (4, 34 :: l ++ [34], p) :: tb false z := by
  have hc : Lx.closedLen 34 (34 :: (l ++ 34 :: z)) = l.length + 2 := by
    rw [Lx.closedLen_cons, if_pos rfl, qr_name l z h]; simp [Lx.upto]; omega
  have hf : Lx.first (34 :: (l ++ 34 :: z)) = (4, l.length + 2) := by
    have h1 : Lx.numLen (34 :: (l ++ 34 :: z)) = 0 := by rw [Lx.numLen_cons, show Lx.digit 34 = false by decide, show ((34 : UInt8) == 46) = false by decide]; simp
    rw [Lx.first_cons, if_neg (by decide), if_neg (by decide), h1, hc]
    simp
  have hbl : Lx.blankLen (34 :: (l ++ 34 :: z)) = 0 := by
    rw [Lx.blankLen_cons, if_neg (by decide)]
    cases l with
    | nil => rfl
    | cons d l => rw [List.cons_append, Lx.commentLen_cons, if_neg (by simp), if_neg (by simp)]
  rw [Lx.tb_tok p _ (by simp) hbl, hf]
  have e : 34 :: (l ++ 34 :: z) = (34 :: l ++ [34]) ++ z := by simp
  dsimp only
  rw [e, List.take_left' (by simp), List.drop_left' (by simp)]
theorem line_tok : tb false [10] = [(7, [10], false)] := by decide +kernel
theorem rest_tok : tb false [32, 47, 47, 32, 120] = [] := by decide +kernel
theorem less_tok (p : Bool) (c : UInt8) (X : List UInt8) (h : nameB c = true) : tb p (60 :: c :: X) = (5, [60], p) :: tb false (c :: X) := by
  have hb := nameB_cases c h
  have h60 : c ≠ 60 := by rintro rfl; revert h; decide
  have hs : Lx.signLen (60 :: c :: X) = 1 := by
    rw [Lx.sign_ref]
    have e1 : ¬ (60 : UInt8) = c := fun e => h60 e.symm
    have e2 : ¬ (61 : UInt8) = c := fun e => hb.2.2.2.2.2.2.2.1 e.symm
    simp [Lx.refSign, Lx.threes, Lx.twos, Lx.ones, Lx.oneBytes, List.isPrefixOf, e1, e2]
  have h1 : Lx.numLen (60 :: c :: X) = 0 := by rw [Lx.numLen_cons, show Lx.digit 60 = false by decide, show ((60 : UInt8) == 46) = false by decide]; simp
  have h2 : Lx.closedLen 34 (60 :: c :: X) = 0 := by rw [Lx.closedLen_cons, if_neg (by decide)]
  have h3 : Lx.closedLen 39 (60 :: c :: X) = 0 := by rw [Lx.closedLen_cons, if_neg (by decide)]
  have hf : Lx.first (60 :: c :: X) = (5, 1) := by
    rw [Lx.first_cons, if_neg (by decide), if_neg (by decide), h1, h2, h3, hs]
    simp
  rw [Lx.tb_tok p _ (by simp) (by rw [Lx.blankLen_cons, if_neg (by decide), Lx.commentLen_cons, if_neg (by simp), if_neg (by simp)]), hf]
  rfl

/-- The tokens of a line that includes a name between quotes. -/
theorem toks_q (l : List UInt8) (h : ∀ c ∈ l, nameB c = true) : tb false (35 :: (inc ++ 32 :: 34 :: (l ++ [34, 10]))) = [(5, [35], false), (1, inc, false), (4, 34 :: l ++ [34], true), (7, [10], false)] := by
  rw [show 35 :: (inc ++ 32 :: 34 :: (l ++ [34, 10])) = 35 :: 105 :: 110 :: 99 :: 108 :: 117 :: 100 :: 101 :: 32 :: 34 :: (l ++ [34, 10]) from rfl, hash_tok _ _ _ (by decide), inc_tok, quote_tok true l [10] h, line_tok]
/-- The tokens of a line that includes a name between signs. -/
theorem toks_a (c : UInt8) (r : List UInt8) (h : nameOk (c :: r) = true) (hl : (c :: r).getLast? ≠ some 45) : ∃ ts : List (Nat × List UInt8 × Bool), ∃ q,
    tb false (35 :: 32 :: 32 :: (inc ++ 32 :: 60 :: ((c :: r) ++ [62, 32, 47, 47, 32, 120]))) = (5, [35], false) :: (1, inc, true) :: (5, [60], true) :: (ts ++ [(5, [62], q)]) ∧
    (ts.map fun t => t.2.1).flatten = c :: r ∧ (∀ t ∈ ts, t.1 ≠ 7 ∧ t.2.1 ≠ [62]) ∧ (∀ t ∈ ts, t.2.2 = false) ∧ ts ≠ [] := by
  obtain ⟨ts, q, e1, e2, e3, e4, e5⟩ := name_toks [47, 47, 32, 120] _ (c :: r) (Nat.le_refl _) h hl false
  refine ⟨ts, q, ?_, e2, e3, fun t ht => ?_, e5 (by simp)⟩
  · rw [show 35 :: 32 :: 32 :: (inc ++ 32 :: 60 :: ((c :: r) ++ [62, 32, 47, 47, 32, 120])) = 35 :: 32 :: 32 :: 105 :: 110 :: 99 :: 108 :: 117 :: 100 :: 101 :: 32 :: 60 :: c :: (r ++ [62, 32, 47, 47, 32, 120]) from rfl, hash_tok _ _ _ (by decide), blank_tok, blank_tok, inc_tok, less_tok true c _ (nameOk_cons c r h).1]
    rw [List.cons_append] at e1
    rw [e1, rest_tok]
  · obtain ⟨i, hi, e⟩ := List.getElem_of_mem ht
    have := e4 i t (by rw [List.getElem?_eq_getElem hi, e])
    simpa using this

theorem kv_text {t : K} {k : Int} {x : List UInt8} {b : Bool} (h : kv t = (k, x, b)) : t.kind = k ∧ t.text = ⟨x.toArray⟩ ∧ t.bl = b := by
  obtain ⟨kd, tx, fl, fr, en, bl⟩ := t
  simp only [kv, Prod.mk.injEq] at h
  obtain ⟨rfl, rfl, rfl⟩ := h
  exact ⟨rfl, by simp, rfl⟩
theorem kv_sign {t : K} {x : List UInt8} {b : Bool} (h : kv t = (5, x, b)) : isSign t ⟨x.toArray⟩ = true := by
  obtain ⟨h1, h2, _⟩ := kv_text h
  simp [isSign, h1, h2]
theorem kind_inc : kindOf ⟨inc.toArray⟩ = 10 := kind_hit 8 (by decide)

theorem cuts_no_nl : ∀ (l : List K) (f k : Nat), f ≤ k → f < k + l.length → (∀ t ∈ l, t.kind ≠ 7) → cuts f k l = [(f, k + l.length - f)]
  | [], f, k, _, h, _ => by unfold cuts; rw [if_pos (by simpa using h)]; simp
  | t :: r, f, k, hf, h, hn => by
    unfold cuts
    rw [if_neg (hn t (by simp)), cuts_no_nl r f (k + 1) (by omega) (by simp at h ⊢; omega) (fun u hu => hn u (List.mem_cons_of_mem _ hu))]
    simp; omega

theorem line_q (L : List K) (m : List UInt8) (b0 b1 b2 b3 : Bool) (h : L.map kv = [(5, [35], b0), (1, inc, b1), (4, 34 :: m ++ [34], b2), (7, [10], b3)]) : ∃ t, lines L = [⟨10, 0, 3, [t]⟩] ∧ target 10 [t] = (⟨m.toArray⟩, false, 0) := by
  obtain ⟨k0, R0, rfl, h0, h⟩ := List.map_eq_cons_iff.1 h
  obtain ⟨k1, R1, rfl, h1, h⟩ := List.map_eq_cons_iff.1 h
  obtain ⟨k2, R2, rfl, h2, h⟩ := List.map_eq_cons_iff.1 h
  obtain ⟨k3, R3, rfl, h3, h⟩ := List.map_eq_cons_iff.1 h
  obtain rfl := List.map_eq_nil_iff.1 h
  · clear h
    have s0 := kv_sign h0
    obtain ⟨a0, _, _⟩ := kv_text h0
    obtain ⟨a1, t1, _⟩ := kv_text h1
    obtain ⟨a2, t2, _⟩ := kv_text h2
    obtain ⟨a3, _, _⟩ := kv_text h3
    refine ⟨k2, ?_, target_q _ _ (qn_yes k2 m a2 t2)⟩
    have hc : cuts 0 0 [k0, k1, k2, k3] = [(0, 3)] := by simp [cuts, a0, a1, a2, a3]
    unfold lines
    rw [hc]
    show [mkLn 0 [k0, k1, k2]] = _
    unfold mkLn
    rw [begins_two k0 k1 [k2] s0, if_pos ⟨a1, by rw [t1, kind_inc]; decide⟩, t1, kind_inc]
    rfl

theorem jn_plain : ∀ (M : List K) (i : Nat), (∀ t ∈ M, t.bl = false) → jnFrom i M = (M.map fun t => t.text.data.toList).flatten
  | [], _, _ => rfl
  | t :: r, i, h => by
    rw [jnFrom, jn_plain r (i + 1) (fun u hu => h u (List.mem_cons_of_mem _ hu)), piece, if_neg (fun e => by rw [h t (by simp)] at e; simp at e)]
    simp

theorem line_a (L : List K) (ts : List (Nat × List UInt8 × Bool)) (q b0 b1 b2 : Bool) (h : L.map kv = (5, [35], b0) :: (1, inc, b1) :: (5, [60], b2) :: (ts.map conv ++ [(5, [62], q)]))
    (hn : ∀ t ∈ ts, t.1 ≠ 7 ∧ t.2.1 ≠ [62]) (hb : ∀ t ∈ ts, t.2.2 = false) (hne : ts ≠ []) :
    ∃ T, lines L = [⟨10, 0, L.length, T⟩] ∧ target 10 T = (⟨((ts.map fun t => t.2.1).flatten).toArray⟩, true, 0) := by
  obtain ⟨k0, R0, rfl, h0, h⟩ := List.map_eq_cons_iff.1 h
  obtain ⟨k1, R1, rfl, h1, h⟩ := List.map_eq_cons_iff.1 h
  obtain ⟨k2, R2, rfl, h2, h⟩ := List.map_eq_cons_iff.1 h
  obtain ⟨M, E, rfl, hM, hE⟩ := List.map_eq_append_iff.1 h
  obtain ⟨e, E', rfl, hE1, hE2⟩ := List.map_eq_cons_iff.1 hE
  obtain rfl := List.map_eq_nil_iff.1 hE2
  · · clear h hE hE2
      have s0 := kv_sign h0
      have s2 := kv_sign h2
      have sE := kv_sign hE1
      obtain ⟨a0, _, _⟩ := kv_text h0
      obtain ⟨a1, t1, _⟩ := kv_text h1
      obtain ⟨a2, _, _⟩ := kv_text h2
      obtain ⟨aE, _, _⟩ := kv_text hE1
      have hmem : ∀ t ∈ M, ∃ x ∈ ts, kv t = conv x := fun t ht => by
        have : kv t ∈ ts.map conv := by rw [← hM]; exact List.mem_map_of_mem ht
        obtain ⟨x, hx, e⟩ := List.mem_map.1 this
        exact ⟨x, hx, e.symm⟩
      have hM7 : ∀ t ∈ M, t.kind ≠ 7 := fun t ht e7 => by
        obtain ⟨x, hx, e⟩ := hmem t ht
        have : t.kind = (x.1 : Int) := congrArg Prod.fst e
        have := (hn x hx).1
        omega
      have hMc : ∀ t ∈ M, cl t = false := fun t ht => by
        obtain ⟨x, hx, e⟩ := hmem t ht
        have h1 : t.text.data.toList = x.2.1 := congrArg (fun y => y.2.1) e
        have h2 := (hn x hx).2
        cases hc : cl t with
        | false => rfl
        | true =>
          simp only [cl, isSign, Bool.and_eq_true, decide_eq_true_iff] at hc
          rw [hc.2] at h1
          exact absurd h1.symm h2
      have hMb : ∀ t ∈ M, t.bl = false := fun t ht => by
        obtain ⟨x, hx, e⟩ := hmem t ht
        have h1 : t.bl = x.2.2 := congrArg (fun y => y.2.2) e
        rw [h1]; exact hb x hx
      have hMl : 0 < M.length := by
        have : M.length = ts.length := by have := congrArg List.length hM; simpa using this
        rw [this]; exact List.length_pos_iff.2 hne
      have hMt : (M.map fun t => t.text.data.toList) = ts.map fun t => t.2.1 := by
        have := congrArg (List.map fun y : Int × List UInt8 × Bool => y.2.1) hM
        rw [List.map_map, List.map_map] at this
        exact this
      refine ⟨k2 :: (M ++ [e]), ?_, ?_⟩
      · have hc : cuts 0 0 (k0 :: k1 :: k2 :: (M ++ [e])) = [(0, (k0 :: k1 :: k2 :: (M ++ [e])).length)] := by
          rw [cuts_no_nl _ 0 0 (Nat.le_refl _) (by simp) (fun t ht => by
            simp only [List.mem_cons, List.mem_append, List.not_mem_nil, or_false] at ht
            rcases ht with rfl | rfl | rfl | ht | rfl
            · omega
            · omega
            · omega
            · exact hM7 t ht
            · omega)]
          simp
        unfold lines
        rw [hc]
        show [mkLn 0 (((k0 :: k1 :: k2 :: (M ++ [e])).drop 0).take _)] = _
        rw [List.drop_zero, List.take_length]
        unfold mkLn
        rw [begins_two k0 k1 _ s0, if_pos ⟨a1, by rw [t1, kind_inc]; decide⟩, t1, kind_inc]
        rfl
      · obtain ⟨T, hT⟩ : ∃ T, T = k2 :: (M ++ [e]) := ⟨_, rfl⟩
        have hTl : T.length = M.length + 2 := by rw [hT]; simp
        have hop : opens T = true := by rw [hT]; exact s2
        have hnc : NC T (T.length - 1) := fun j t hj _ ht => by
          rw [hT] at ht
          cases j with
          | zero => simp at ht; subst ht; exact cl_opens hop (by rw [hT]; rfl)
          | succ j =>
            rw [List.getElem?_cons_succ, List.getElem?_append_left (by omega)] at ht
            exact hMc t (List.mem_of_getElem? ht)
        have hlast : T[T.length - 1]? = some e := by
          rw [hTl, hT, show M.length + 2 - 1 = M.length + 1 by omega, List.getElem?_cons_succ, List.getElem?_append_right (Nat.le_refl _), Nat.sub_self]; rfl
        have hbt := bt_yes (by omega) hop hnc hlast sE
        have hpart : (T.drop 1).take (T.length - 2) = M := by
          rw [hTl, hT, List.drop_succ_cons, List.drop_zero, show M.length + 2 - 2 = M.length by omega, List.take_left' rfl]
        rw [hpart] at hbt
        rw [← hT, target_b T M (qn_long T (by omega)) hbt, jn, jn_plain M 0 hMb, hMt]

/-- What the first line of an include's text is, and what it includes. -/
theorem first_q (s : ByteArray) (l : List UInt8) (hs : s.data.toList = 35 :: (inc ++ 32 :: 34 :: (l ++ [34, 10]))) (h : ∀ c ∈ l, nameB c = true) : (firstLn s).kind = 10 ∧ target 10 (firstLn s).toks = (⟨l.toArray⟩, false, 0) := by
  have hv := ks_view s (by
    rw [hs]
    intro c hc
    simp only [inc, List.mem_cons, List.mem_append, List.not_mem_nil, or_false] at hc
    rcases hc with rfl | (rfl | rfl | rfl | rfl | rfl | rfl | rfl) | rfl | rfl | hc | rfl | rfl <;> first | decide | exact (nameB_cases c (h c hc)).2.2.2.1)
  rw [hs, toks_q l h] at hv
  obtain ⟨t, h1, h2⟩ := line_q (ks s) l false false true false hv
  unfold firstLn
  rw [h1]
  exact ⟨rfl, h2⟩
theorem first_a (s : ByteArray) (c : UInt8) (r : List UInt8) (hs : s.data.toList = 35 :: 32 :: 32 :: (inc ++ 32 :: 60 :: ((c :: r) ++ [62, 32, 47, 47, 32, 120]))) (h : nameOk (c :: r) = true) (hl : (c :: r).getLast? ≠ some 45) :
    (firstLn s).kind = 10 ∧ target 10 (firstLn s).toks = (⟨(c :: r).toArray⟩, true, 0) := by
  have hall := nameOk_all (c :: r) h
  have hv := ks_view s (by
    rw [hs]
    intro d hd
    rw [show 35 :: 32 :: 32 :: (inc ++ 32 :: 60 :: ((c :: r) ++ [62, 32, 47, 47, 32, 120])) = ([35, 32, 32] ++ inc ++ [32, 60]) ++ ((c :: r) ++ [62, 32, 47, 47, 32, 120]) by simp [inc]] at hd
    rcases List.mem_append.1 hd with hd | hd
    · have key : ∀ d ∈ [35, 32, 32] ++ inc ++ [32, 60], d ≠ 92 := by decide
      exact key d hd
    · rcases List.mem_append.1 hd with hd | hd
      · exact (nameB_cases d (hall d hd)).2.2.2.1
      · have key : ∀ d ∈ ([62, 32, 47, 47, 32, 120] : List UInt8), d ≠ 92 := by decide
        exact key d hd)
  obtain ⟨ts, q, e1, e2, e3, e4, e5⟩ := toks_a c r h hl
  rw [hs, e1] at hv
  obtain ⟨T, h1, h2⟩ := line_a (ks s) ts q false true true (by rw [hv]; simp [conv]) e3 e4 e5
  rw [e2] at h2
  unfold firstLn
  rw [h1]
  exact ⟨rfl, h2⟩
end Go.Proofs.YtnkheejpmkflaaaDoor.Dx
