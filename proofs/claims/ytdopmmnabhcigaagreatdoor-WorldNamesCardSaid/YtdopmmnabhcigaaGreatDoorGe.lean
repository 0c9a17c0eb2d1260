/- What is proved: what first tells of a text: the kind and the length of its first token. (and what stands with it) -/
import Derived.Test.YtdopmmnabhcigaaGreatDoorGd
import Derived.Sort.KeysCollected
import Derived.RangeFuncNested
import Derived.RangeFuncCalls
import Derived.RangeFuncLeaves
import Derived.Below
import Derived.Deep.RegionHeld3
import Derived.Deep.AppendLies
import Derived.IntWalk
import Derived.Deep.DeepCutAuto

/- What is proved: what first tells of a text: the kind and the length of its first token. -/
namespace Go.Proofs.YtdopmmnabhcigaaGreatDoor
open Go.RowKit Go.Shelf

/-- A kind and a length. -/
def Pair (w : World) (p : Nat × Nat) (e : Ending) (w' : World) : Prop := e = .returned (.tuple #[.int .i64 p.1, .int .i64 p.2]) ∧ Below w.heap.size w w'

theorem head_yes (s : ByteArray) (h : 1 < s.size) : Lx.headDigit (s.data.toList.drop 1) = Lx.digit s[1] := by
  rw [drop_at s 1 h]; rfl
theorem head_no (s : ByteArray) (h : ¬ 1 < s.size) : Lx.headDigit (s.data.toList.drop 1) = false := by
  rw [drop_end s 1 (by omega)]; rfl

set_option maxHeartbeats 4000000 in
set_option maxRecDepth 100000 in
theorem first_any (s : ByteArray) (hs : s.size ≤ 4000000000) (h0 : 0 < s.size) (w : World) (hG : Glob w) : Calls Tryz.prog 50 #[.string s] w (Pair w (Lx.first s.data.toList)) := by
  have hd0 := drop_at s 0 h0
  rw [List.drop_zero, show 0 + 1 = 1 from rfl] at hd0
  have hf := Lx.first_cons s[0] (s.data.toList.drop 1)
  have hnl := Lx.numLen_cons s[0] (s.data.toList.drop 1)
  rw [← hd0] at hf hnl
  have b1 := (Lx.closedLen_le 34 s.data.toList).1
  have b2 := (Lx.closedLen_le 39 s.data.toList).1
  have hsg := Lx.signLen_le s.data.toList
  rw [size_list] at b1 b2 hsg
  obtain ⟨P, hP⟩ : ∃ P, P = Lx.first s.data.toList := ⟨_, rfl⟩
  rw [← hP] at hf ⊢
  clear hP
  obtain ⟨A, hA⟩ : ∃ A, A = Lx.closedLen 34 s.data.toList := ⟨_, rfl⟩
  obtain ⟨B, hB'⟩ : ∃ B, B = Lx.closedLen 39 s.data.toList := ⟨_, rfl⟩
  obtain ⟨C, hC⟩ : ∃ C, C = Lx.signLen s.data.toList := ⟨_, rfl⟩
  rw [← hA, ← hB', ← hC] at hf
  rw [← hA] at b1
  rw [← hB'] at b2
  rw [← hC] at hsg
  have HA := Lib.hid hA
  have HB := Lib.hid hB'
  have HC := Lib.hid hC
  clear hA hB' hC
  have HG := Lib.hid hG
  clear hG
  by_cases hA : s[0] = 10
  · rw [if_pos hA] at hf
    have t1 : ((s[0].toNat : Int) == 10) = true := u8_eq hA
    subst hf
    clear hA hd0 hnl
    go_enter Tryz.func50, Tryz.ntmps50
    go_wp2_with fail
    go_ret2
    exact ⟨rfl, Below.refl _ _⟩
  · rw [if_neg hA] at hf
    have t1 : ((s[0].toNat : Int) == 10) = false := u8_ne hA
    clear hA
    cases hB : Lx.letter s[0] with
    | true =>
      rw [if_pos hB] at hf
      subst hf
      clear hd0 hnl
      go_enter Tryz.func50, Tryz.ntmps50
      go_wp2_with (first | (go_at_call 76; refine (letter_any _ _).mono ?_; rintro e w' ⟨rfl, rfl⟩) | (go_at_call 77; refine (name_any s hs _).mono ?_; rintro e w' ⟨rfl, rfl⟩))
      go_ret2
      exact ⟨rfl, Below.refl _ _⟩
    | false =>
      rw [if_neg (by rw [hB]; simp)] at hf
      have t46 := u8_beq s[0] 46
      rw [show ((46 : UInt8).toNat : Int) = 46 from rfl] at t46
      rw [t46] at hnl
      by_cases hN : (Lx.digit s[0] || (((s[0].toNat : Int) == 46) && Lx.headDigit (s.data.toList.drop 1))) = true
      · rw [if_pos hN] at hnl
        rw [hnl, if_pos (by omega)] at hf
        have hcase : Lx.digit s[0] = true ∨ (Lx.digit s[0] = false ∧ ((s[0].toNat : Int) == 46) = true ∧ ∃ h : 1 < s.size, Lx.digit s[1] = true) := by
          cases hD : Lx.digit s[0] with
          | true => exact .inl rfl
          | false =>
            rw [hD, Bool.false_or, Bool.and_eq_true] at hN
            refine .inr ⟨rfl, hN.1, ?_⟩
            by_cases h1 : 1 < s.size
            · exact ⟨h1, by rw [← head_yes s h1]; exact hN.2⟩
            · have := hN.2; rw [head_no s h1] at this; cases this
        obtain ⟨M, hM⟩ : ∃ M, M = 1 + Lx.numRest (s.data.toList.drop 1) := ⟨_, rfl⟩
        rw [← hM] at hf
        have HM := Lib.hid hM
        subst hf
        clear hd0 hnl hN t46 hM
        rcases hcase with h1 | ⟨h1, h2, h3, h4⟩
        all_goals
          go_enter Tryz.func50, Tryz.ntmps50
          go_wp2_with (first | (go_at_call 76; refine (letter_any _ _).mono ?_; rintro e w' ⟨rfl, rfl⟩) | (go_at_call 78; refine (digit_any _ _).mono ?_; rintro e w' ⟨rfl, rfl⟩) | (go_at_call 79; refine (number_any s hs h0 _).mono ?_; rintro e w' ⟨rfl, rfl⟩; rw [← HM.out]))
          go_ret2
          exact ⟨rfl, Below.refl _ _⟩
      · rw [if_neg hN] at hnl
        rw [hnl, if_neg (by omega)] at hf
        have hcase : (Lx.digit s[0] = false ∧ ((s[0].toNat : Int) == 46) = false) ∨ (Lx.digit s[0] = false ∧ ((s[0].toNat : Int) == 46) = true ∧ ¬ 1 < s.size) ∨ (Lx.digit s[0] = false ∧ ((s[0].toNat : Int) == 46) = true ∧ ∃ h : 1 < s.size, Lx.digit s[1] = false) := by
          cases hD : Lx.digit s[0] with
          | true => rw [hD] at hN; simp at hN
          | false =>
            rw [hD, Bool.false_or] at hN
            cases h46 : ((s[0].toNat : Int) == 46) with
            | false => exact .inl ⟨rfl, rfl⟩
            | true =>
              rw [h46, Bool.true_and] at hN
              by_cases h1 : 1 < s.size
              · rw [head_yes s h1] at hN
                exact .inr (.inr ⟨rfl, rfl, h1, by simpa using hN⟩)
              · exact .inr (.inl ⟨rfl, rfl, h1⟩)
        clear hd0 hnl hN t46
        by_cases hA0 : 0 < A
        · rw [if_pos hA0] at hf
          subst hf
          rcases hcase with ⟨h1, h2⟩ | ⟨h1, h2, h3⟩ | ⟨h1, h2, h3, h4⟩
          all_goals try (exfalso; omega)
          all_goals
            go_enter Tryz.func50, Tryz.ntmps50
            go_wp2_with (first | (go_at_call 76; refine (letter_any _ _).mono ?_; rintro e w' ⟨rfl, rfl⟩) | (go_at_call 78; refine (digit_any _ _).mono ?_; rintro e w' ⟨rfl, rfl⟩))
            refine (closed_any s hs h0 34 (by decide) (by decide) _).mono ?_
            rintro e w' ⟨rfl, rfl⟩
            rw [← HA.out]
            go_wp2_with fail
            go_ret2
            exact ⟨rfl, Below.refl _ _⟩
        · rw [if_neg hA0] at hf
          by_cases hB2 : 2 < B
          · rw [if_pos hB2] at hf
            subst hf
            rcases hcase with ⟨h1, h2⟩ | ⟨h1, h2, h3⟩ | ⟨h1, h2, h3, h4⟩
            all_goals try (exfalso; omega)
            all_goals
              go_enter Tryz.func50, Tryz.ntmps50
              go_wp2_with (first | (go_at_call 76; refine (letter_any _ _).mono ?_; rintro e w' ⟨rfl, rfl⟩) | (go_at_call 78; refine (digit_any _ _).mono ?_; rintro e w' ⟨rfl, rfl⟩))
              refine (closed_any s hs h0 34 (by decide) (by decide) _).mono ?_
              rintro e w' ⟨rfl, rfl⟩
              rw [← HA.out]
              go_wp2_with fail
              refine (closed_any s hs h0 39 (by decide) (by decide) _).mono ?_
              rintro e w' ⟨rfl, rfl⟩
              rw [← HB.out]
              go_wp2_with fail
              go_ret2
              exact ⟨rfl, Below.refl _ _⟩
          · rw [if_neg hB2] at hf
            by_cases hC0 : 0 < C
            · rw [if_pos hC0] at hf
              subst hf
              rcases hcase with ⟨h1, h2⟩ | ⟨h1, h2, h3⟩ | ⟨h1, h2, h3, h4⟩
              all_goals try (exfalso; omega)
              all_goals
                go_enter Tryz.func50, Tryz.ntmps50
                go_wp2_with (first | (go_at_call 76; refine (letter_any _ _).mono ?_; rintro e w' ⟨rfl, rfl⟩) | (go_at_call 78; refine (digit_any _ _).mono ?_; rintro e w' ⟨rfl, rfl⟩))
                refine (closed_any s hs h0 34 (by decide) (by decide) _).mono ?_
                rintro e w' ⟨rfl, rfl⟩
                rw [← HA.out]
                go_wp2_with fail
                refine (closed_any s hs h0 39 (by decide) (by decide) _).mono ?_
                rintro e w' ⟨rfl, rfl⟩
                rw [← HB.out]
                go_wp2_with fail
                refine (sign_any s hs _ HG.out).mono ?_
                rintro e w' ⟨rfl, hB⟩
                rw [← HC.out]
                go_wp2_with fail
                go_ret2
                exact ⟨rfl, hB⟩
            · rw [if_neg hC0] at hf
              subst hf
              rcases hcase with ⟨h1, h2⟩ | ⟨h1, h2, h3⟩ | ⟨h1, h2, h3, h4⟩
              all_goals try (exfalso; omega)
              all_goals
                go_enter Tryz.func50, Tryz.ntmps50
                go_wp2_with (first | (go_at_call 76; refine (letter_any _ _).mono ?_; rintro e w' ⟨rfl, rfl⟩) | (go_at_call 78; refine (digit_any _ _).mono ?_; rintro e w' ⟨rfl, rfl⟩))
                refine (closed_any s hs h0 34 (by decide) (by decide) _).mono ?_
                rintro e w' ⟨rfl, rfl⟩
                rw [← HA.out]
                go_wp2_with fail
                refine (closed_any s hs h0 39 (by decide) (by decide) _).mono ?_
                rintro e w' ⟨rfl, rfl⟩
                rw [← HB.out]
                go_wp2_with fail
                refine (sign_any s hs _ HG.out).mono ?_
                rintro e w' ⟨rfl, hB⟩
                rw [← HC.out]
                go_wp2_with fail
                go_ret2
                exact ⟨rfl, hB⟩
end Go.Proofs.YtdopmmnabhcigaaGreatDoor

/- What is proved: slices of tokens in memory. -/
namespace Go.Proofs.YtdopmmnabhcigaaGreatDoor
open Go.RowKit Go.Shelf
open Lx (T)

/-- A token's six cells. -/
def cellsOne (f : Int) (t : T) : List Value := [.int .i64 t.kind, .string ⟨t.text.toArray⟩, .int .i64 f, .int .i64 t.fr, .int .i64 t.to, .bool t.bl]
/-- The cells of tokens. -/
def tokCells (f : Int) : List T → List Value
  | [] => []
  | t :: r => cellsOne f t ++ tokCells f r
theorem tokCells_append (f : Int) (a b : List T) : tokCells f (a ++ b) = tokCells f a ++ tokCells f b := by
  induction a with
  | nil => rfl
  | cons x r ih => simp [tokCells, ih]
theorem tokCells_length (f : Int) (a : List T) : (tokCells f a).length = a.length * 6 := by
  induction a with
  | nil => rfl
  | cons x r ih => simp [tokCells, cellsOne, ih]; omega
theorem tokCells_get (f : Int) (a : List T) : ∀ i t, a[i]? = some t → ∀ j v, (cellsOne f t)[j]? = some v → (tokCells f a)[i * 6 + j]? = some v := by
  induction a with
  | nil => intro i x h; simp at h
  | cons y r ih =>
    intro i t h j v hj
    have h6 : (cellsOne f y).length = 6 := rfl
    cases i with
    | zero =>
      simp at h; subst h
      have hlt := (List.getElem?_eq_some_iff.1 hj).1
      rw [tokCells, List.getElem?_append_left (by omega), Nat.zero_mul, Nat.zero_add]
      exact hj
    | succ i =>
      simp at h
      rw [tokCells, List.getElem?_append_right (by omega), h6, show (i + 1) * 6 + j - 6 = i * 6 + j by omega]
      exact ih i t h j v hj

/-- The cells at a place are a token's. -/
def TokAt (W : World) (g o : Nat) (f : Int) (t : T) : Prop :=
  W.cell? ⟨g, o, none⟩ = some (.int .i64 t.kind) ∧ W.cell? ⟨g, o + 1, none⟩ = some (.string ⟨t.text.toArray⟩) ∧ W.cell? ⟨g, o + 2, none⟩ = some (.int .i64 f) ∧
  W.cell? ⟨g, o + 3, none⟩ = some (.int .i64 t.fr) ∧ W.cell? ⟨g, o + 4, none⟩ = some (.int .i64 t.to) ∧ W.cell? ⟨g, o + 5, none⟩ = some (.bool t.bl)
theorem TokAt.below {W W' : World} {g o n : Nat} {f : Int} {t : T} (h : TokAt W g o f t) (hb : Below n W W') (hg : g < n) : TokAt W' g o f t := by
  obtain ⟨h0, h1, h2, h3, h4, h5⟩ := h
  exact ⟨(hb.cell (p := ⟨g, o, none⟩) hg).trans h0, (hb.cell (p := ⟨g, o + 1, none⟩) hg).trans h1, (hb.cell (p := ⟨g, o + 2, none⟩) hg).trans h2,
    (hb.cell (p := ⟨g, o + 3, none⟩) hg).trans h3, (hb.cell (p := ⟨g, o + 4, none⟩) hg).trans h4, (hb.cell (p := ⟨g, o + 5, none⟩) hg).trans h5⟩

/-- A slice value whose elements are these tokens. -/
def Toks (W : World) (v : Value) (f : Int) (ts : List T) : Prop :=
  ∃ ad cap, v = .slice ad ts.length cap ∧ ts.length ≤ cap ∧ cap ≤ maxLen ∧ ∀ i t, ts[i]? = some t → ∃ g o, ad = some ⟨g, o, none⟩ ∧ TokAt W g (o + i * 6) f t

theorem Toks.below {W W' : World} {v : Value} {f : Int} {ts : List T} (h : Toks W v f ts) (hb : Below W.heap.size W W') : Toks W' v f ts := by
  obtain ⟨ad, cap, rfl, h1, h2, h3⟩ := h
  refine ⟨ad, cap, rfl, h1, h2, fun i t ht => ?_⟩
  obtain ⟨g, o, e, c⟩ := h3 i t ht
  exact ⟨g, o, e, c.below hb (lt_of_cell c.1)⟩

theorem Toks.of_row {W : World} {base : Nat} {v : Value} {f : Int} {ts : List T} (h : W.ownsRow base 50 6 v ts.length (tokCells f ts)) : Toks W v f ts := by
  have hc := fun g => h.cells (g := g)
  rcases h.2 with ⟨rfl, h0⟩ | ⟨g, cap, cur, rfl, _, _, h1, h2, _, _⟩
  · refine ⟨none, 0, by rw [h0], by omega, Nat.zero_le _, fun i x hx => ?_⟩
    rw [List.length_eq_zero_iff.1 h0] at hx
    simp at hx
  · refine ⟨_, cap, rfl, h1, h2, fun i t ht => ⟨g, 0, rfl, ?_⟩⟩
    have key : ∀ j v, (cellsOne f t)[j]? = some v → W.cell? ⟨g, 0 + (i * 6 + j), none⟩ = some v := fun j v hj => by
      have := hc g rfl (i * 6 + j) v (tokCells_get f ts i t ht j v hj)
      rwa [add_none] at this
    refine ⟨key 0 _ rfl, ?_, ?_, ?_, ?_, ?_⟩
    · exact key 1 _ rfl
    · exact key 2 _ rfl
    · exact key 3 _ rfl
    · exact key 4 _ rfl
    · exact key 5 _ rfl

theorem Toks.cells {W : World} {ad : Option Addr} {n cap : Nat} {f : Int} {ts : List T} (h : Toks W (.slice ad n cap) f ts) (hl : 0 < ts.length) :
    ∃ g o, ad = some ⟨g, o, none⟩ ∧ n = ts.length ∧ ts.length ≤ cap ∧ cap ≤ maxLen ∧ g < W.heap.size ∧ ∀ i t, ts[i]? = some t → TokAt W g (o + i * 6) f t := by
  obtain ⟨ad', cap', e, h1, h2, h3⟩ := h
  injection e with e1 e2 e3
  subst e1 e2 e3
  obtain ⟨g, o, rfl, c0⟩ := h3 0 _ (List.getElem?_eq_getElem hl)
  refine ⟨g, o, rfl, rfl, h1, h2, lt_of_cell c0.1, fun i x hx => ?_⟩
  obtain ⟨g', o', e, d⟩ := h3 i x hx
  injection e with e
  injection e with e4 e5
  subst e4 e5
  exact d

theorem infoTok : (Tryz.prog.info? 50).map (fun i => (i.zero, i.size, i.bytes)) = some (some (.agg #[.int .i64 0, .string ByteArray.empty, .int .i64 0, .int .i64 0, .int .i64 0, .bool false]), 6, 56) := by kernel_rfl

/-- Tokens: new memory that holds just the tokens of a text. -/
def ToksPost (w : World) (f : Int) (ts : List T) (e : Ending) (w' : World) : Prop := ∃ v, e = .returned v ∧ Toks w' v f ts ∧ Below w.heap.size w w'

/-- What has come when l is passed up to place k, and what is still to come. -/
def Sofar (l : List Sp.Ch) (k : Nat) (p : Bool) (acc : List T) : Prop := k ≤ l.length ∧ acc.length ≤ k ∧ Lx.tk false l = acc ++ Lx.tk p (l.drop k)
theorem sofar_start (l : List Sp.Ch) : Sofar l 0 false [] := ⟨Nat.zero_le _, Nat.le_refl _, by simp⟩
theorem sofar_end {l : List Sp.Ch} {k : Nat} {p : Bool} {acc : List T} (h : Sofar l k p acc) (hk : l.length ≤ k) : acc = Lx.tk false l := by
  rw [h.2.2, List.drop_of_length_le hk, Lx.tk_nil]; simp
theorem sofar_blank {l : List Sp.Ch} {k : Nat} {p : Bool} {acc : List T} (h : Sofar l k p acc) (hb : 0 < Lx.blankLen (Lx.bytes (l.drop k))) :
    k + Lx.blankLen (Lx.bytes (l.drop k)) ≤ l.length ∧ Sofar l (k + Lx.blankLen (Lx.bytes (l.drop k))) true acc := by
  have h1 := Lx.blank_len (l.drop k)
  rw [List.length_drop] at h1
  have h2 := h.1
  refine ⟨by omega, by omega, by have := h.2.1; omega, ?_⟩
  rw [h.2.2, Lx.tk_blank p _ hb, List.drop_drop]
theorem sofar_tok {l : List Sp.Ch} {k : Nat} {p : Bool} {acc : List T} (h : Sofar l k p acc) (hk : k < l.length) (hb : Lx.blankLen (Lx.bytes (l.drop k)) = 0) :
    0 < (Lx.first (Lx.bytes (l.drop k))).2 ∧ k + (Lx.first (Lx.bytes (l.drop k))).2 ≤ l.length ∧ Sofar l (k + (Lx.first (Lx.bytes (l.drop k))).2) false (acc ++ [Lx.tokAt p (l.drop k)]) := by
  have hl : l.drop k ≠ [] := by rw [Ne, List.drop_eq_nil_iff]; omega
  have h1 := Lx.first_len (l.drop k) hl
  rw [List.length_drop] at h1
  have h2 := h.1
  refine ⟨h1.1, by omega, by omega, by have := h.2.1; simp; omega, ?_⟩
  rw [h.2.2, Lx.tk_tok p _ hl hb, List.drop_drop]
  simp
end Go.Proofs.YtdopmmnabhcigaaGreatDoor

/- What is proved: slices of tokens, of any kind, and slices of lines, in memory. -/
namespace Go.Proofs.YtdopmmnabhcigaaGreatDoor
open Go.RowKit Go.Shelf
open Lx (T)

theorem Below.then {w w1 w2 : World} (h : Below w.heap.size w w1) (k : Below w1.heap.size w1 w2) : Below w.heap.size w w2 := h.trans (k.mono h.size)
/-- A law's answer. -/
def TruePost (w : World) (e : Ending) (w' : World) : Prop := e = .returned (.bool true) ∧ Below w.heap.size w w'

/-- A token with all that it holds. -/
structure K where
  kind : Int
  text : ByteArray
  file : Int
  fr : Int
  en : Int
  bl : Bool

def ofT (f : Int) (t : T) : K := ⟨t.kind, ⟨t.text.toArray⟩, f, t.fr, t.to, t.bl⟩
/-- A token's six cells. -/
def kCells (t : K) : List Value := [.int .i64 t.kind, .string t.text, .int .i64 t.file, .int .i64 t.fr, .int .i64 t.en, .bool t.bl]
def ksCells : List K → List Value
  | [] => []
  | t :: r => kCells t ++ ksCells r
theorem ksCells_append (a b : List K) : ksCells (a ++ b) = ksCells a ++ ksCells b := by
  induction a with
  | nil => rfl
  | cons x r ih => simp [ksCells, ih]
theorem ksCells_length (a : List K) : (ksCells a).length = a.length * 6 := by
  induction a with
  | nil => rfl
  | cons x r ih => simp [ksCells, kCells, ih]; omega
theorem ksCells_get (a : List K) : ∀ i t, a[i]? = some t → ∀ j v, (kCells t)[j]? = some v → (ksCells a)[i * 6 + j]? = some v := by
  induction a with
  | nil => intro i x h; simp at h
  | cons y r ih =>
    intro i t h j v hj
    have h6 : (kCells y).length = 6 := rfl
    cases i with
    | zero =>
      simp at h; subst h
      have hlt := (List.getElem?_eq_some_iff.1 hj).1
      rw [ksCells, List.getElem?_append_left (by omega), Nat.zero_mul, Nat.zero_add]
      exact hj
    | succ i =>
      simp at h
      rw [ksCells, List.getElem?_append_right (by omega), h6, show (i + 1) * 6 + j - 6 = i * 6 + j by omega]
      exact ih i t h j v hj
theorem ksCells_one (a : List K) : ∀ u ∈ ksCells a, u.oneCell' = true := by
  induction a with
  | nil => intro u hu; simp [ksCells] at hu
  | cons x r ih =>
    intro u hu
    rcases List.mem_append.1 hu with h | h
    · simp only [kCells, List.mem_cons, List.not_mem_nil, or_false] at h
      rcases h with rfl | rfl | rfl | rfl | rfl | rfl <;> rfl
    · exact ih u h

/-- The cells at a place are a token's. -/
def KAt (W : World) (g o : Nat) (t : K) : Prop :=
  W.cell? ⟨g, o, none⟩ = some (.int .i64 t.kind) ∧ W.cell? ⟨g, o + 1, none⟩ = some (.string t.text) ∧ W.cell? ⟨g, o + 2, none⟩ = some (.int .i64 t.file) ∧
  W.cell? ⟨g, o + 3, none⟩ = some (.int .i64 t.fr) ∧ W.cell? ⟨g, o + 4, none⟩ = some (.int .i64 t.en) ∧ W.cell? ⟨g, o + 5, none⟩ = some (.bool t.bl)
theorem KAt.kept {W W' : World} {g o : Nat} {t : K} (h : KAt W g o t) (hb : W'.heap[g]? = W.heap[g]?) : KAt W' g o t := by
  obtain ⟨h0, h1, h2, h3, h4, h5⟩ := h
  have k := fun o : Nat => World.cell?_of_block (a := ⟨g, o, none⟩) hb
  exact ⟨(k _).trans h0, (k _).trans h1, (k _).trans h2, (k _).trans h3, (k _).trans h4, (k _).trans h5⟩
theorem KAt.below {W W' : World} {g o n : Nat} {t : K} (h : KAt W g o t) (hb : Below n W W') (hg : g < n) : KAt W' g o t := h.kept (hb.block g hg)

/-- A slice value whose elements are these tokens. -/
def Ks (W : World) (v : Value) (ts : List K) : Prop :=
  ∃ ad cap, v = .slice ad ts.length cap ∧ ts.length ≤ cap ∧ cap ≤ maxLen ∧ ∀ i t, ts[i]? = some t → ∃ g o, ad = some ⟨g, o, none⟩ ∧ KAt W g (o + i * 6) t

theorem Ks.kept {W W' : World} {v : Value} {ts : List K} (h : Ks W v ts) (hb : ∀ g o n cap, v = .slice (some ⟨g, o, none⟩) n cap → g < W.heap.size → W'.heap[g]? = W.heap[g]?) : Ks W' v ts := by
  obtain ⟨ad, cap, rfl, h1, h2, h3⟩ := h
  refine ⟨ad, cap, rfl, h1, h2, fun i t ht => ?_⟩
  obtain ⟨g, o, e, c⟩ := h3 i t ht
  exact ⟨g, o, e, c.kept (hb g o _ _ (by rw [e]) (lt_of_cell c.1))⟩
theorem Ks.below {W W' : World} {v : Value} {ts : List K} (h : Ks W v ts) (hb : Below W.heap.size W W') : Ks W' v ts :=
  h.kept fun g _ _ _ _ hg => hb.block g hg

theorem Toks.ks {W : World} {v : Value} {f : Int} {ts : List T} (h : Toks W v f ts) : Ks W v (ts.map (ofT f)) := by
  obtain ⟨ad, cap, rfl, h1, h2, h3⟩ := h
  refine ⟨ad, cap, by rw [List.length_map], by rw [List.length_map]; exact h1, h2, fun i t ht => ?_⟩
  rw [List.getElem?_map] at ht
  obtain ⟨x, hx, rfl⟩ := Option.map_eq_some_iff.1 ht
  exact h3 i x hx

theorem Ks.of_row {W : World} {base : Nat} {v : Value} {ts : List K} (h : W.ownsRow base 50 6 v ts.length (ksCells ts)) : Ks W v ts := by
  have hc := fun g => h.cells (g := g)
  rcases h.2 with ⟨rfl, h0⟩ | ⟨g, cap, cur, rfl, _, _, h1, h2, _, _⟩
  · refine ⟨none, 0, by rw [h0], by omega, Nat.zero_le _, fun i x hx => ?_⟩
    rw [List.length_eq_zero_iff.1 h0] at hx
    simp at hx
  · refine ⟨_, cap, rfl, h1, h2, fun i t ht => ⟨g, 0, rfl, ?_⟩⟩
    have key : ∀ j v, (kCells t)[j]? = some v → W.cell? ⟨g, 0 + (i * 6 + j), none⟩ = some v := fun j v hj => by
      have := hc g rfl (i * 6 + j) v (ksCells_get ts i t ht j v hj)
      rwa [add_none] at this
    refine ⟨key 0 _ rfl, ?_, ?_, ?_, ?_, ?_⟩
    · exact key 1 _ rfl
    · exact key 2 _ rfl
    · exact key 3 _ rfl
    · exact key 4 _ rfl
    · exact key 5 _ rfl

theorem Ks.cells {W : World} {ad : Option Addr} {n cap : Nat} {ts : List K} (h : Ks W (.slice ad n cap) ts) (hl : 0 < ts.length) :
    ∃ g o, ad = some ⟨g, o, none⟩ ∧ n = ts.length ∧ ts.length ≤ cap ∧ cap ≤ maxLen ∧ g < W.heap.size ∧ ∀ i t, ts[i]? = some t → KAt W g (o + i * 6) t := by
  obtain ⟨ad', cap', e, h1, h2, h3⟩ := h
  injection e with e1 e2 e3
  subst e1 e2 e3
  obtain ⟨g, o, rfl, c0⟩ := h3 0 _ (List.getElem?_eq_getElem hl)
  refine ⟨g, o, rfl, rfl, h1, h2, lt_of_cell c0.1, fun i x hx => ?_⟩
  obtain ⟨g', o', e, d⟩ := h3 i x hx
  injection e with e
  injection e with e4 e5
  subst e4 e5
  exact d

/-- What a slice of a slice of tokens is, its address left open where nothing is left. -/
theorem Ks.part {W : World} {g o n cap : Nat} {ts : List K} (h : Ks W (.slice (some ⟨g, o, none⟩) n cap) ts) (a b : Nat) (hab : a ≤ b) (hb : b ≤ ts.length) :
    Ks W (.slice (some ⟨g, o + a * 6, none⟩) (b - a) (cap - a)) ((ts.drop a).take (b - a)) := by
  obtain ⟨ad', cap', e, h1, h2, h3⟩ := h
  injection e with e1 e2 e3
  subst e1 e2 e3
  have hl : ((ts.drop a).take (b - a)).length = b - a := by rw [List.length_take, List.length_drop]; omega
  refine ⟨_, cap - a, by rw [hl], by rw [hl]; omega, by omega, fun i t ht => ?_⟩
  rw [List.getElem?_take] at ht
  split at ht
  · rw [List.getElem?_drop] at ht
    obtain ⟨g', o', e', ha⟩ := h3 _ t ht
    injection e' with e'
    injection e' with e4 e5
    subst e4 e5
    exact ⟨g, o + a * 6, rfl, by rw [show o + a * 6 + i * 6 = o + (a + i) * 6 by omega]; exact ha⟩
  · cases ht
theorem Ks.none_at (W : World) (ad : Option Addr) (cap : Nat) (hc : cap ≤ maxLen) : Ks W (.slice ad 0 cap) [] :=
  ⟨ad, cap, rfl, Nat.zero_le _, hc, fun i t ht => by simp at ht⟩
/-- A token's value. -/
def kAgg (t : K) : Value := .agg #[.int .i64 t.kind, .string t.text, .int .i64 t.file, .int .i64 t.fr, .int .i64 t.en, .bool t.bl]

/-! ### Lines -/
/-- A line with all that it holds. -/
structure Ln where
  kind : Int
  first : Nat
  n : Nat
  toks : List K

/-- The cells at a place are a line's. -/
def LnAt (W : World) (g o : Nat) (x : Ln) : Prop :=
  ∃ v, W.cell? ⟨g, o, none⟩ = some (.int .i64 x.kind) ∧ W.cell? ⟨g, o + 1, none⟩ = some (.int .i64 x.first) ∧ W.cell? ⟨g, o + 2, none⟩ = some (.int .i64 x.n) ∧ W.cell? ⟨g, o + 3, none⟩ = some v ∧ Ks W v x.toks
theorem LnAt.below {W W' : World} {g o : Nat} {x : Ln} (h : LnAt W g o x) (hb : Below W.heap.size W W') : LnAt W' g o x := by
  obtain ⟨v, h0, h1, h2, h3, h4⟩ := h
  have hg := lt_of_cell h0
  exact ⟨v, (hb.cell (p := ⟨g, o, none⟩) hg).trans h0, (hb.cell (p := ⟨g, o + 1, none⟩) hg).trans h1, (hb.cell (p := ⟨g, o + 2, none⟩) hg).trans h2, (hb.cell (p := ⟨g, o + 3, none⟩) hg).trans h3, h4.below hb⟩

/-- A slice value whose elements are these lines. -/
def Lns (W : World) (v : Value) (ls : List Ln) : Prop :=
  ∃ ad cap, v = .slice ad ls.length cap ∧ ls.length ≤ cap ∧ cap ≤ maxLen ∧ ∀ i x, ls[i]? = some x → ∃ g o, ad = some ⟨g, o, none⟩ ∧ LnAt W g (o + i * 4) x
theorem Lns.below {W W' : World} {v : Value} {ls : List Ln} (h : Lns W v ls) (hb : Below W.heap.size W W') : Lns W' v ls := by
  obtain ⟨ad, cap, rfl, h1, h2, h3⟩ := h
  refine ⟨ad, cap, rfl, h1, h2, fun i t ht => ?_⟩
  obtain ⟨g, o, e, c⟩ := h3 i t ht
  exact ⟨g, o, e, c.below hb⟩
theorem Lns.cells {W : World} {ad : Option Addr} {n cap : Nat} {ls : List Ln} (h : Lns W (.slice ad n cap) ls) (hl : 0 < ls.length) :
    ∃ g o, ad = some ⟨g, o, none⟩ ∧ n = ls.length ∧ ls.length ≤ cap ∧ cap ≤ maxLen ∧ g < W.heap.size ∧ ∀ i x, ls[i]? = some x → LnAt W g (o + i * 4) x := by
  obtain ⟨ad', cap', e, h1, h2, h3⟩ := h
  injection e with e1 e2 e3
  subst e1 e2 e3
  obtain ⟨g, o, rfl, v, c0⟩ := h3 0 _ (List.getElem?_eq_getElem hl)
  refine ⟨g, o, rfl, rfl, h1, h2, lt_of_cell c0.1, fun i x hx => ?_⟩
  obtain ⟨g', o', e, d⟩ := h3 i x hx
  injection e with e
  injection e with e4 e5
  subst e4 e5
  exact d

/-- Values of tokens' slices that belong to lines. -/
def SlK (W : World) (vs : List Value) (ls : List Ln) : Prop := vs.length = ls.length ∧ ∀ (i : Nat) (v : Value) (x : Ln), vs[i]? = some v → ls[i]? = some x → Ks W v x.toks ∧ v.oneCell' = true
theorem SlK.below {W W' : World} {vs : List Value} {ls : List Ln} (h : SlK W vs ls) (hb : Below W.heap.size W W') : SlK W' vs ls :=
  ⟨h.1, fun i v x h1 h2 => ⟨(h.2 i v x h1 h2).1.below hb, (h.2 i v x h1 h2).2⟩⟩
theorem SlK.nil (W : World) : SlK W [] [] := ⟨rfl, fun i v x h => by simp at h⟩
theorem SlK.snoc {W : World} {vs : List Value} {ls : List Ln} {v : Value} {x : Ln} (h : SlK W vs ls) (hv : Ks W v x.toks) : SlK W (vs ++ [v]) (ls ++ [x]) := by
  refine ⟨by simp [h.1], fun i u y h1 h2 => ?_⟩
  rcases Nat.lt_trichotomy i vs.length with hi | hi | hi
  · rw [List.getElem?_append_left hi] at h1
    rw [List.getElem?_append_left (by rw [← h.1]; exact hi)] at h2
    exact h.2 i u y h1 h2
  · rw [List.getElem?_append_right (by omega), hi, Nat.sub_self] at h1
    rw [List.getElem?_append_right (by have := h.1; omega), hi, ← h.1, Nat.sub_self] at h2
    simp at h1 h2
    subst h1 h2
    refine ⟨hv, ?_⟩
    obtain ⟨ad, cap, rfl, _⟩ := hv
    rfl
  · rw [List.getElem?_eq_none (by simp; omega)] at h1; cases h1

/-- The cells of lines, given their tokens' slices. -/
def lnCells : List Value → List Ln → List Value
  | v :: vs, x :: ls => [.int .i64 x.kind, .int .i64 x.first, .int .i64 x.n, v] ++ lnCells vs ls
  | _, _ => []
theorem lnCells_append : ∀ (a b : List Value) (x y : List Ln), a.length = x.length → lnCells (a ++ b) (x ++ y) = lnCells a x ++ lnCells b y
  | [], b, [], y, _ => rfl
  | v :: a, b, t :: x, y, h => by
    have := lnCells_append a b x y (by simpa using h)
    simp [lnCells, this]
theorem lnCells_get : ∀ (a : List Value) (x : List Ln) i v t, a[i]? = some v → x[i]? = some t → ∀ j u, [Value.int .i64 t.kind, .int .i64 t.first, .int .i64 t.n, v][j]? = some u → (lnCells a x)[i * 4 + j]? = some u
  | [], x, i, v, t, h, _ => by simp at h
  | w :: a, [], i, v, t, _, h => by simp at h
  | w :: a, y :: x, i, v, t, h1, h2 => by
    intro j u hj
    have hlt := (List.getElem?_eq_some_iff.1 hj).1
    cases i with
    | zero =>
      simp at h1 h2; subst h1 h2
      rw [lnCells, List.getElem?_append_left (by simpa using hlt), Nat.zero_mul, Nat.zero_add]
      exact hj
    | succ i =>
      simp at h1 h2
      rw [lnCells, List.getElem?_append_right (by simp; omega)]
      have := lnCells_get a x i v t h1 h2 j u hj
      rw [show (i + 1) * 4 + j - [Value.int .i64 y.kind, .int .i64 y.first, .int .i64 y.n, w].length = i * 4 + j by simp; omega]
      exact this

theorem Lns.of_row {W : World} {base : Nat} {v : Value} {vs : List Value} {ls : List Ln} (h : W.ownsRow base 44 4 v ls.length (lnCells vs ls)) (hk : SlK W vs ls) : Lns W v ls := by
  have hc := fun g => h.cells (g := g)
  rcases h.2 with ⟨rfl, h0⟩ | ⟨g, cap, cur, rfl, _, _, h1, h2, _, _⟩
  · refine ⟨none, 0, by rw [h0], by omega, Nat.zero_le _, fun i x hx => ?_⟩
    rw [List.length_eq_zero_iff.1 h0] at hx
    simp at hx
  · refine ⟨_, cap, rfl, h1, h2, fun i t ht => ⟨g, 0, rfl, ?_⟩⟩
    have hi : i < vs.length := by rw [hk.1]; exact (List.getElem?_eq_some_iff.1 ht).1
    have key : ∀ j u, [Value.int .i64 t.kind, .int .i64 t.first, .int .i64 t.n, vs[i]][j]? = some u → W.cell? ⟨g, 0 + (i * 4 + j), none⟩ = some u := fun j u hj => by
      have := hc g rfl (i * 4 + j) u (lnCells_get vs ls i vs[i] t (List.getElem?_eq_getElem hi) ht j u hj)
      rwa [add_none] at this
    refine ⟨vs[i], key 0 _ rfl, ?_, ?_, ?_, (hk.2 i _ t (List.getElem?_eq_getElem hi) ht).1⟩
    · exact key 1 _ rfl
    · exact key 2 _ rfl
    · exact key 3 _ rfl
theorem infoLn : (Tryz.prog.info? 44).map (fun i => (i.zero, i.size, i.bytes)) = some (some (.agg #[.int .i64 0, .int .i64 0, .int .i64 0, .slice none 0 0]), 4, 48) := by kernel_rfl
end Go.Proofs.YtdopmmnabhcigaaGreatDoor

/- What is proved: plain facts on lines and directives: where lines stand, what kind each is of, what an include names. -/
namespace Go.Proofs.YtdopmmnabhcigaaGreatDoor.Dx
open Go.Lib Go.Proofs.YtdopmmnabhcigaaGreatDoor

/-- A directive's kind, by its word. -/
def kindOf (w : ByteArray) : Int := match wordTab.findIdx? (fun s => decide (w = ⟨s.toArray⟩)) with
  | some i => (i : Int) + 2
  | none => 0
/-- A directive's word. -/
def wordOf (k : Int) : ByteArray := if 2 ≤ k ∧ k ≤ 13 then ⟨(wordTab.getD (k - 2).toNat []).toArray⟩ else ⟨#[]⟩

/-- The word at a place of the table. -/
def wordAt (k : Nat) : ByteArray := ⟨(wordTab.getD k []).toArray⟩
def noneTo (x : ByteArray) (k : Nat) : Prop := ∀ j, j < k → x ≠ wordAt j
theorem noneTo_zero (x : ByteArray) : noneTo x 0 := fun _ h => by omega
theorem noneTo_succ {x : ByteArray} {k : Nat} (h : noneTo x k) (hk : x ≠ wordAt k) : noneTo x (k + 1) := fun j hj => by
  by_cases e : j = k
  · rw [e]; exact hk
  · exact h j (by omega)
theorem kind_hit (k : Nat) (hk : k < 12) : kindOf (wordAt k) = (k : Int) + 2 := by
  have key : ∀ j, j < k → wordAt k ≠ wordAt j := by
    intro j hj e
    have e' : wordTab.getD k [] = wordTab.getD j [] := by
      have := congrArg (fun b : ByteArray => b.data.toList) e
      simpa [wordAt] using this
    have all : ∀ a < 12, ∀ b < a, wordTab.getD a [] ≠ wordTab.getD b [] := by decide
    exact all k hk j hj e'
  have hl : k < wordTab.length := hk
  have hf : wordTab.findIdx? (fun s => decide (wordAt k = ⟨s.toArray⟩)) = some k := by
    rw [List.findIdx?_eq_some_iff_getElem]
    refine ⟨hl, ?_, fun j hj => ?_⟩
    · simp [wordAt, hl]
    · have := key j hj
      have hj' : j < wordTab.length := by omega
      simp only [wordAt, List.getD_eq_getElem?_getD, List.getElem?_eq_getElem hj', Option.getD_some] at this ⊢
      simpa using this
  unfold kindOf
  rw [hf]
theorem kind_miss (x : ByteArray) (h : noneTo x 12) : kindOf x = 0 := by
  have hf : wordTab.findIdx? (fun s => decide (x = ⟨s.toArray⟩)) = none := by
    rw [List.findIdx?_eq_none_iff]
    intro s hs
    obtain ⟨j, hj, e⟩ := List.getElem_of_mem hs
    have := h j hj
    simp only [wordAt, List.getD_eq_getElem?_getD, List.getElem?_eq_getElem hj, Option.getD_some, e] at this
    simpa using this
  unfold kindOf
  rw [hf]
theorem kind_cases (x : ByteArray) : noneTo x 12 ∨ ∃ k, k < 12 ∧ x = wordAt k := by
  by_cases h : ∃ k, k < 12 ∧ x = wordAt k
  · exact .inr h
  · exact .inl fun j hj e => h ⟨j, hj, e⟩
theorem word_cell (k : Nat) (hk : k < 12) : wordCells[k]? = some (.string (wordAt k)) := by
  have hl : k < wordTab.length := hk
  unfold wordCells wordAt
  rw [List.getElem?_toArray, List.getElem?_map, List.getElem?_eq_getElem hl]
  simp [hl]
theorem word_of (k : Nat) (hk : k < 12) : wordOf ((k : Int) + 2) = wordAt k := by
  unfold wordOf wordAt
  rw [if_pos (by omega), show ((k : Int) + 2 - 2).toNat = k by omega]
theorem word_none (k : Int) (h : ¬ (2 ≤ k ∧ k ≤ 13)) : wordOf k = ⟨#[]⟩ := by
  unfold wordOf
  rw [if_neg h]

def isSign (t : K) (s : ByteArray) : Bool := t.kind == 5 && decide (t.text = s)
/-- A line's kind, and how many of its tokens stand ahead of those that it is about. -/
def begins : List K → Int × Nat
  | [] => (1, 0)
  | t :: r => if isSign t ⟨#[35]⟩ then (match r with
      | [] => (14, 1)
      | u :: _ => if u.kind = 1 ∧ kindOf u.text ≠ 0 then (kindOf u.text, 2) else (15, 1)) else (1, 0)
theorem begins_nil : begins [] = (1, 0) := rfl
theorem begins_no (t : K) (r : List K) (h : isSign t ⟨#[35]⟩ = false) : begins (t :: r) = (1, 0) := by
  cases r <;> simp [begins, h]
theorem begins_one (t : K) (h : isSign t ⟨#[35]⟩ = true) : begins [t] = (14, 1) := by simp [begins, h]
theorem begins_two (t u : K) (r : List K) (h : isSign t ⟨#[35]⟩ = true) : begins (t :: u :: r) = if u.kind = 1 ∧ kindOf u.text ≠ 0 then (kindOf u.text, 2) else (15, 1) := by simp [begins, h]
theorem begins_le (l : List K) : (begins l).2 ≤ l.length := by
  match l with
  | [] => simp [begins]
  | t :: r =>
    cases h : isSign t ⟨#[35]⟩ with
    | false => rw [begins_no t r h]; simp
    | true =>
      cases r with
      | nil => rw [begins_one t h]; simp
      | cons u r => rw [begins_two t u r h]; split <;> simp
def mkLn (first : Nat) (l : List K) : Ln := ⟨(begins l).1, first, l.length, l.drop (begins l).2⟩

/-- Where each line begins, and how many tokens it has: of tokens from place k on, of which the line's first one has the place f. -/
def cuts : Nat → Nat → List K → List (Nat × Nat)
  | f, k, [] => if f < k then [(f, k - f)] else []
  | f, k, t :: r => if t.kind = 7 then (f, k - f) :: cuts (k + 1) (k + 1) r else cuts f (k + 1) r
/-- The line of a place and a number. -/
def lnOf (l : List K) (c : Nat × Nat) : Ln := mkLn c.1 ((l.drop c.1).take c.2)
/-- The lines of tokens. -/
def lines (l : List K) : List Ln := (cuts 0 0 l).map (lnOf l)

theorem cuts_len : ∀ (l : List K) (f k : Nat), (cuts f k l).length + (if f < k then 0 else 1) ≤ l.length + 1
  | [], f, k => by unfold cuts; split <;> simp
  | t :: r, f, k => by
    unfold cuts
    split
    · have := cuts_len r (k + 1) (k + 1)
      rw [if_neg (by omega)] at this
      simp; split <;> omega
    · have := cuts_len r f (k + 1)
      simp
      split at this <;> split <;> omega
theorem cuts_length (l : List K) : (cuts 0 0 l).length ≤ l.length := by
  have := cuts_len l 0 0
  rw [if_neg (by omega)] at this
  omega

/-- What has come when l is passed up to place k, the line having begun at f; what is still to come. -/
def At (l : List K) (f k : Nat) (pre : List (Nat × Nat)) : Prop := f ≤ k ∧ k ≤ l.length ∧ cuts 0 0 l = pre ++ cuts f k (l.drop k)
theorem at_start (l : List K) : At l 0 0 [] := ⟨Nat.le_refl _, Nat.zero_le _, by simp⟩
theorem at_skip {l : List K} {f k : Nat} {pre : List (Nat × Nat)} {t : K} (h : At l f k pre) (ht : l[k]? = some t) (hk : t.kind ≠ 7) : At l f (k + 1) pre := by
  obtain ⟨hlt, e⟩ := List.getElem?_eq_some_iff.1 ht
  have e2 : l.drop k = t :: l.drop (k + 1) := by rw [← e]; exact List.drop_eq_getElem_cons hlt
  refine ⟨by have := h.1; omega, hlt, ?_⟩
  rw [h.2.2, e2]
  conv => lhs; unfold cuts
  rw [if_neg hk]
theorem at_cut {l : List K} {f k : Nat} {pre : List (Nat × Nat)} {t : K} (h : At l f k pre) (ht : l[k]? = some t) (hk : t.kind = 7) : At l (k + 1) (k + 1) (pre ++ [(f, k - f)]) ∧ pre ++ [(f, k - f)] <+: cuts 0 0 l ∧ pre.length < (cuts 0 0 l).length := by
  obtain ⟨hlt, e⟩ := List.getElem?_eq_some_iff.1 ht
  have e2 : l.drop k = t :: l.drop (k + 1) := by rw [← e]; exact List.drop_eq_getElem_cons hlt
  have e3 : cuts 0 0 l = pre ++ [(f, k - f)] ++ cuts (k + 1) (k + 1) (l.drop (k + 1)) := by
    rw [h.2.2, e2]
    conv => lhs; unfold cuts
    rw [if_pos hk]; simp
  exact ⟨⟨Nat.le_refl _, hlt, e3⟩, ⟨_, e3.symm⟩, by rw [e3]; simp⟩
theorem at_end {l : List K} {f k : Nat} {pre : List (Nat × Nat)} (h : At l f k pre) (hk : l.length ≤ k) : (f < l.length → cuts 0 0 l = pre ++ [(f, l.length - f)] ∧ pre.length < (cuts 0 0 l).length) ∧ (l.length ≤ f → cuts 0 0 l = pre) := by
  have h1 := h.2.1
  obtain rfl : k = l.length := by omega
  have e := h.2.2
  rw [List.drop_of_length_le (Nat.le_refl _), show cuts f l.length [] = if f < l.length then [(f, l.length - f)] else [] from rfl] at e
  refine ⟨fun hf => ?_, fun hf => ?_⟩
  · rw [if_pos hf] at e
    exact ⟨e, by rw [e]; simp⟩
  · rw [if_neg (by omega)] at e
    simpa using e

theorem at_endN {l : List K} {f k N : Nat} {pre : List (Nat × Nat)} (h : At l f k pre) (hN : N = l.length) (hk : N ≤ k) : (f < N → cuts 0 0 l = pre ++ [(f, N - f)] ∧ pre.length < (cuts 0 0 l).length) ∧ (N ≤ f → cuts 0 0 l = pre) := by
  subst hN; exact at_end h hk

theorem cuts_in : ∀ (l : List K) (f k : Nat), f ≤ k → ∀ c ∈ cuts f k l, c.1 + c.2 ≤ k + l.length
  | [], f, k, hf, c, hc => by
    unfold cuts at hc
    split at hc
    · simp at hc; subst hc; simp; omega
    · simp at hc
  | t :: r, f, k, hf, c, hc => by
    unfold cuts at hc
    split at hc
    · rcases List.mem_cons.1 hc with rfl | hc
      · simp; omega
      · have := cuts_in r (k + 1) (k + 1) (Nat.le_refl _) c hc
        simp; omega
    · have := cuts_in r f (k + 1) (by omega) c hc
      simp; omega
theorem cuts_bound (l : List K) : ∀ c ∈ cuts 0 0 l, c.1 + c.2 ≤ l.length := fun c hc => by
  have := cuts_in l 0 0 (Nat.le_refl _) c hc
  omega
end Go.Proofs.YtdopmmnabhcigaaGreatDoor.Dx

/- What is proved: plain facts on texts in order, each once: what is put among them, and what the statements' files ask for, define and spell. -/
namespace Go.Proofs.YtdopmmnabhcigaaGreatDoor.Wo
open Go.Lib Go.Proofs.YtdopmmnabhcigaaGreatDoor

/-- A text's bytes, and back. -/
def tx (x : List UInt8) : ByteArray := ⟨x.toArray⟩
def bl (s : ByteArray) : List UInt8 := s.data.toList
theorem bl_tx (x : List UInt8) : bl (tx x) = x := by simp [bl, tx]
theorem tx_bl (s : ByteArray) : tx (bl s) = s := by simp [bl, tx]
theorem bl_inj {a b : ByteArray} (h : bl a = bl b) : a = b := by rw [← tx_bl a, h, tx_bl]
def lt (a b : ByteArray) : Prop := bl a < bl b
instance (a b : ByteArray) : Decidable (lt a b) := inferInstanceAs (Decidable (bl a < bl b))
theorem lt_irrefl (a : ByteArray) : ¬ lt a a := List.lt_irrefl (bl a)
theorem lt_trans {a b c : ByteArray} (h : lt a b) (k : lt b c) : lt a c := List.lt_trans h k
theorem lt_asymm {a b : ByteArray} (h : lt a b) : ¬ lt b a := fun k => lt_irrefl a (lt_trans h k)
theorem lt_or {a b : ByteArray} (h : a ≠ b) : lt a b ∨ lt b a := by
  unfold lt
  by_cases h1 : bl a < bl b
  · exact .inl h1
  · by_cases h2 : bl b < bl a
    · exact .inr h2
    · exact absurd (bl_inj (List.le_antisymm (List.not_lt.1 h2) (List.not_lt.1 h1))) h

/-- Texts by rising bytes, each once. -/
def Srt (l : List ByteArray) : Prop := l.Pairwise lt
theorem Srt.nodup {l : List ByteArray} (h : Srt l) : l.Nodup := by
  unfold List.Nodup
  refine List.Pairwise.imp ?_ h
  intro a b hab e
  subst e
  exact lt_irrefl _ hab
/-- Is a text among others? -/
def has (l : List ByteArray) (x : ByteArray) : Bool := l.any fun a => decide (a = x)
theorem has_iff (l : List ByteArray) (x : ByteArray) : has l x = true ↔ x ∈ l := by simp [has]
theorem has_not (l : List ByteArray) (x : ByteArray) : has l x = false ↔ x ∉ l := by rw [← has_iff]; simp
theorem snoc_ind {α : Type} {p : List α → Prop} (l : List α) (nil : p []) (snoc : ∀ l a, p l → p (l ++ [a])) : p l := by
  have h : ∀ m : List α, p m.reverse := by
    intro m
    induction m with
    | nil => exact nil
    | cons a m ih => rw [List.reverse_cons]; exact snoc _ _ ih
  have := h l.reverse
  rwa [List.reverse_reverse] at this
theorem srt_unique {a b : List ByteArray} (ha : Srt a) (hb : Srt b) (h : ∀ x, x ∈ a ↔ x ∈ b) : a = b :=
  List.Perm.eq_of_pairwise (le := lt) (fun _ _ _ _ h1 h2 => absurd h2 (lt_asymm h1)) ha hb ((List.perm_ext_iff_of_nodup ha.nodup hb.nodup).2 h)

/-- One step of the document's own Put: what has come out, and whether the name is among that. -/
def putSt (x : ByteArray) (o : List ByteArray × Bool) (a : ByteArray) : List ByteArray × Bool := if o.2 = false ∧ lt x a then (o.1 ++ [x] ++ [a], true) else (o.1 ++ [a], o.2)
def putTo (x : ByteArray) (l : List ByteArray) : List ByteArray × Bool := l.foldl (putSt x) ([], false)
/-- The document's own Put. -/
def put (l : List ByteArray) (x : ByteArray) : List ByteArray := if has l x then l else if (putTo x l).2 then (putTo x l).1 else (putTo x l).1 ++ [x]
theorem putTo_snoc (x a : ByteArray) (l : List ByteArray) : putTo x (l ++ [a]) = putSt x (putTo x l) a := by simp [putTo]

theorem putTo_spec (x : ByteArray) (l : List ByteArray) : Srt l → x ∉ l →
    ((putTo x l).2 = false → (putTo x l).1 = l ∧ ∀ a ∈ l, lt a x) ∧ ((putTo x l).2 = true → Srt (putTo x l).1 ∧ (∀ y, y ∈ (putTo x l).1 ↔ y = x ∨ y ∈ l) ∧ ∀ a ∈ l.getLast?, lt x a) := by
  induction l using snoc_ind with
  | nil =>
    intro _ _
    exact ⟨fun _ => ⟨rfl, fun a h => by cases h⟩, fun h => by cases h⟩
  | snoc l a ih =>
    intro hs hx
    rw [putTo_snoc]
    have hs' : Srt l ∧ ∀ b ∈ l, lt b a := by
      unfold Srt at hs
      rw [List.pairwise_append] at hs
      exact ⟨hs.1, fun b hb => hs.2.2 b hb a (by simp)⟩
    have hxa : x ≠ a := fun e => hx (by rw [e]; simp)
    obtain ⟨i1, i2⟩ := ih hs'.1 (fun h => hx (by simp [h]))
    unfold putSt
    cases hd : (putTo x l).2 with
    | false =>
      obtain ⟨j1, j2⟩ := i1 hd
      by_cases hl : lt x a
      · rw [if_pos ⟨rfl, hl⟩]
        refine ⟨fun h => by (simp at h), fun _ => ⟨?_, ?_, ?_⟩⟩
        · dsimp only
          rw [j1]
          unfold Srt
          rw [List.pairwise_append, List.pairwise_append]
          refine ⟨⟨hs'.1, by simp, fun b hb c hc => ?_⟩, by simp, fun b hb c hc => ?_⟩
          · simp at hc; subst hc; exact j2 b hb
          · simp at hc; subst hc
            rcases List.mem_append.1 hb with hb | hb
            · exact hs'.2 b hb
            · simp at hb; subst hb; exact hl
        · intro y
          dsimp only
          rw [j1]
          simp
          constructor
          · rintro (h | h | h)
            · exact .inr (.inl h)
            · exact .inl h
            · exact .inr (.inr h)
          · rintro (h | h | h)
            · exact .inr (.inl h)
            · exact .inl h
            · exact .inr (.inr h)
        · intro b hb
          simp at hb
          subst hb
          exact hl
      · rw [if_neg (fun h => hl h.2)]
        refine ⟨fun _ => ⟨by dsimp only; rw [j1], fun b hb => ?_⟩, fun h => by (simp at h)⟩
        rcases List.mem_append.1 hb with hb | hb
        · exact j2 b hb
        · simp at hb; subst hb
          rcases lt_or hxa with h | h
          · exact absurd h hl
          · exact h
    | true =>
      obtain ⟨j1, j2, j3⟩ := i2 hd
      rw [if_neg (fun h => by cases h.1)]
      have hxa' : lt x a := by
        cases hgl : l.getLast? with
        | none =>
          rw [List.getLast?_eq_none_iff] at hgl
          subst hgl
          cases hd
        | some b =>
          have hb := j3 b hgl
          exact lt_trans hb (hs'.2 b (List.mem_of_getLast? hgl))
      refine ⟨fun h => by (simp at h), fun _ => ⟨?_, ?_, ?_⟩⟩
      · dsimp only
        unfold Srt
        rw [List.pairwise_append]
        refine ⟨j1, by simp, fun b hb c hc => ?_⟩
        simp at hc; subst hc
        rcases (j2 b).1 hb with rfl | hb
        · exact hxa'
        · exact hs'.2 b hb
      · intro y
        dsimp only
        rw [List.mem_append, j2 y, List.mem_append]
        simp only [List.mem_singleton]
        constructor
        · rintro ((h | h) | h)
          · exact .inl h
          · exact .inr (.inl h)
          · exact .inr (.inr h)
        · rintro (h | h | h)
          · exact .inl (.inl h)
          · exact .inl (.inr h)
          · exact .inr h
      · intro b hb
        simp at hb
        subst hb
        exact hxa'

theorem put_spec (l : List ByteArray) (x : ByteArray) (h : Srt l) : Srt (put l x) ∧ ∀ y, y ∈ put l x ↔ y ∈ l ∨ y = x := by
  unfold put
  by_cases hx : x ∈ l
  · rw [if_pos ((has_iff l x).2 hx)]
    exact ⟨h, fun y => ⟨.inl, fun hy => hy.elim id fun e => by rw [e]; exact hx⟩⟩
  · rw [if_neg (by rw [has_iff]; exact hx)]
    obtain ⟨i1, i2⟩ := putTo_spec x l h hx
    cases hd : (putTo x l).2 with
    | false =>
      obtain ⟨j1, j2⟩ := i1 hd
      rw [if_neg (by simp), j1]
      refine ⟨?_, fun y => by simp⟩
      unfold Srt
      rw [List.pairwise_append]
      exact ⟨h, by simp, fun b hb c hc => by simp at hc; subst hc; exact j2 b hb⟩
    | true =>
      obtain ⟨j1, j2, _⟩ := i2 hd
      rw [if_pos rfl]
      exact ⟨j1, fun y => by rw [j2 y, or_comm]⟩
theorem put_len (l : List ByteArray) (x : ByteArray) (h : Srt l) : (put l x).length ≤ l.length + 1 := by
  obtain ⟨h1, h2⟩ := put_spec l x h
  have hp := List.Nodup.length_le_of_subset (l₂ := x :: l) h1.nodup fun y hy => by
    rcases (h2 y).1 hy with h | h
    · exact List.mem_cons_of_mem _ h
    · rw [h]; exact List.mem_cons_self
  simpa using hp

/-- Texts in order, each once. -/
def srt (l : List ByteArray) : List ByteArray := l.foldl put []
theorem srt_snoc (l : List ByteArray) (x : ByteArray) : srt (l ++ [x]) = put (srt l) x := by simp [srt]
theorem srt_spec (l : List ByteArray) : Srt (srt l) ∧ ∀ y, y ∈ srt l ↔ y ∈ l := by
  induction l using snoc_ind with
  | nil => exact ⟨List.Pairwise.nil, fun y => Iff.rfl⟩
  | snoc l a ih =>
    rw [srt_snoc]
    obtain ⟨h1, h2⟩ := put_spec (srt l) a ih.1
    exact ⟨h1, fun y => by rw [h2 y, ih.2 y]; simp⟩
theorem srt_of {a l : List ByteArray} (ha : Srt a) (h : ∀ x, x ∈ a ↔ x ∈ l) : a = srt l := srt_unique ha (srt_spec l).1 fun x => by rw [h x, (srt_spec l).2 x]
theorem srt_same {l l' : List ByteArray} (h : ∀ x, x ∈ l ↔ x ∈ l') : srt l = srt l' := srt_of (srt_spec l).1 fun x => by rw [(srt_spec l).2 x, h x]
theorem srt_len (l : List ByteArray) : (srt l).length ≤ l.length := by
  induction l using snoc_ind with
  | nil => exact Nat.le_refl _
  | snoc l a ih =>
    rw [srt_snoc]
    have := put_len (srt l) a (srt_spec l).1
    simp
    omega

/-- What is left behind the sort of texts that were each once. -/
theorem srt_merge {ss : List (List UInt8)} {l : List ByteArray} (hn : ss.Nodup) (hm : ∀ x : ByteArray, bl x ∈ ss ↔ x ∈ l) : (ss.mergeSort leB).map tx = srt l := by
  have tr : ∀ a b c : List UInt8, leB a b = true → leB b c = true → leB a c = true := fun a b c h1 h2 => by simp only [leB, decide_eq_true_eq] at *; exact List.le_trans h1 h2
  have tot : ∀ a b : List UInt8, (leB a b || leB b a) = true := fun a b => by simp only [leB, Bool.or_eq_true, decide_eq_true_eq]; exact List.le_total a b
  have hp := List.mergeSort_perm ss leB
  have hs := List.pairwise_mergeSort tr tot ss
  have hnd : (ss.mergeSort leB).Nodup := hp.nodup_iff.2 hn
  refine srt_of ?_ fun x => ?_
  · unfold Srt
    rw [List.pairwise_map]
    refine (hs.and hnd).imp fun {a b} h => ?_
    obtain ⟨h1, h2⟩ := h
    simp only [leB, decide_eq_true_eq] at h1
    unfold lt
    rw [bl_tx, bl_tx]
    rcases List.le_iff_lt_or_eq.1 h1 with h | h
    · exact h
    · exact absurd h h2
  · rw [List.mem_map]
    constructor
    · rintro ⟨y, hy, rfl⟩
      exact (hm _).1 (by rw [bl_tx]; exact hp.mem_iff.1 hy)
    · intro h
      exact ⟨bl x, hp.mem_iff.2 ((hm x).2 h), tx_bl x⟩

/-! ### What files ask for, define and spell -/
abbrev Fs := List (ByteArray × ByteArray)
def toks (n : Nat) (t : ByteArray) : List K := (Lx.tk false (Sp.left 0 t.data.toList)).map (ofT n)
def toksFrom : Nat → Fs → List (List K)
  | _, [] => []
  | n, f :: r => toks n f.2 :: toksFrom (n + 1) r
def lns (fs : Fs) : List Ln := (toksFrom 0 fs).flatMap Dx.lines
def words (l : List K) : List ByteArray := (l.filter fun t => t.kind == 1).map K.text
def asks (x : Ln) : List ByteArray := if x.kind = 2 ∨ x.kind = 3 ∨ x.kind = 4 ∨ x.kind = 5 then words x.toks else []
def defs (x : Ln) : List ByteArray := if x.kind = 8 ∨ x.kind = 9 then words (x.toks.take 1) else []
def askedL (l : List Ln) : List ByteArray := l.flatMap asks
def knownL (l : List Ln) : List ByteArray := l.flatMap defs
def known (fs : Fs) : List ByteArray := srt (knownL (lns fs))
def spelled (fs : Fs) : List ByteArray := srt ((toksFrom 0 fs).flatMap words)
def DEF : ByteArray := ⟨#[100, 101, 102, 105, 110, 101, 100]⟩
def VAA : ByteArray := ⟨#[95, 95, 86, 65, 95, 65, 82, 71, 83, 95, 95]⟩
def wanted (k : List ByteArray) (x : ByteArray) : Bool := !has k x && !decide (x = DEF) && !decide (x = VAA)
def names0 (fs : Fs) : List ByteArray := srt ((askedL (lns fs)).filter (wanted (knownL (lns fs))))
def names (fs : Fs) : List ByteArray := if 8 < (names0 fs).length then [] else names0 fs
def namesE (fs : Fs) : Int := if 8 < (names0 fs).length then 110 else 0
end Go.Proofs.YtdopmmnabhcigaaGreatDoor.Wo

/- What is proved: a range over a function whose iterator hands over new memory: each round is told what lies there; each round says yes. -/
namespace Go.Proofs.YtdopmmnabhcigaaGreatDoor
open Go.RowKit

/-- All blocks of cells lie as they lay. -/
structure KeepC (W W' : World) : Prop where
  size : W.heap.size ≤ W'.heap.size
  same : ∀ (k : Nat) (o : Obj), W.heap[k]? = some o → o.isCells = true → W'.heap[k]? = some o
theorem KeepC.refl (W : World) : KeepC W W := ⟨Nat.le_refl _, fun _ _ h _ => h⟩
theorem KeepC.trans {A B C : World} (h : KeepC A B) (k : KeepC B C) : KeepC A C := ⟨Nat.le_trans h.size k.size, fun i o hi ho => k.same i o (h.same i o hi ho) ho⟩
theorem KeepC.below {W W' : World} (h : Below W.heap.size W W') : KeepC W W' := ⟨h.size, fun k _ hk _ => (h.block k (Array.getElem?_eq_some_iff.1 hk).1).trans hk⟩
theorem KeepC.grown {W W' : World} {row : Option Nat} (hg : W.grownBy W' row) (hr : ∀ r, row = some r → ∃ o : Obj, W.heap[r]? = some o ∧ o.isCells = false) : KeepC W W' :=
  ⟨hg.size, fun k o hk ho => (hg.block k (Array.getElem?_eq_some_iff.1 hk).1 fun e => by
    obtain ⟨o', h1, h2⟩ := hr k e.symm
    rw [hk] at h1
    obtain rfl := Option.some.inj h1
    rw [ho] at h2
    cases h2).trans hk⟩
theorem KeepC.putObj {W : World} {l : Nat} {o : Obj} (o' : Obj) (hl : W.heap[l]? = some o) (ho : o.isCells = false) : KeepC W (W.putObj l o') :=
  KeepC.grown (grownBy_putObj' W l o') fun r e => by cases e; exact ⟨o, hl, ho⟩
theorem KeepC.cell {W W' : World} (h : KeepC W W') {a : Addr} {v : Value} (hc : W.cell? a = some v) : W'.cell? a = some v := by
  obtain ⟨o, ho, hk⟩ := cells_of_cell hc
  exact (World.cell?_of_block ((h.same _ _ ho hk).trans ho.symm)).trans hc

/-- What an iterator owes whose rounds are told, in each, what its element is in the memory at hand (G), and say yes: all have come (S). -/
def SeqG {α : Type} (F : Fence) (n : Nat) (P : Program) (g : Nat) (lb : Array Value) (encs : α → Array Value) (G : List α → α → World → Prop) (S : List α → Prop) (w : World) : Prop :=
  ∀ (l : Nat) (J : List α → World → Prop) (W : World), Below w.heap.size w W → OwnFrom W.heap.size J →
    (∀ pre x V, J pre V → G pre x V → YieldAt F (n - 1) P l (encs x) V fun e V' => e = .returned (.bool true) ∧ J (pre ++ [x]) V' ∧ KeepC V V' ∧ KeepsFrom W.heap.size V V') →
    J [] W → CallsIn F n P g (#[.func (.yield l) #[] #[]] ++ lb) W fun e W' => (∃ v, e = .returned v) ∧ ∃ xs, S xs ∧ J xs W'

theorem kf_wide {B B' : Nat} {W W' : World} (h : KeepsFrom B W W') (hb : B ≤ B') : KeepsFrom B' W W' := ⟨h.size, fun k o hk => h.same k o (Nat.le_trans hb hk)⟩
theorem kf_below {B : Nat} {W W' : World} (h : Below W.heap.size W W') : KeepsFrom B W W' := ⟨h.size, fun k _ _ hk _ => (h.block k (Array.getElem?_eq_some_iff.1 hk).1).trans hk⟩
theorem round_deep {F : Fence} (hd : F.depth = none) {m m' : Nat} {P : Program} {l : Nat} {f : FuncId} {tmps : Array Value} {assign body : Code} {w : World} {R : Ending → World → Prop}
    (h : RoundIn F m P l f tmps assign body w R) (q : Nat) : RoundIn (F.inRound q) m' P l f tmps assign body w R := ⟨h.1, fun c cs _ => h.2 c cs fun d e => by rw [hd] at e; cases e⟩

/-- How a round is left: off its end. -/
def OffEnd {α : Type} (B : Nat) (I : List α → World → Prop) (xs : List α) (W : World) : Exit → Act → World → Prop
  | .normal, _, W' => KeepsFrom B W W' ∧ KeepC W W' ∧ I xs W'
  | _, _, _ => False

variable {F : Fence} {n : Nat} {P : Program}

theorem wpIn_rangeG {α : Type} {g : Operand} {ps : Array Tmp} {assign body : Code} {Q : Exit → Act → World → Prop} {a : Act} {w : World}
    (hro : F.round = none) (h1 : 1 ≤ n) {gf : Nat} {lb : Array Value} (hg : a.eval g = .func (.func gf) #[] lb) (hFg : F.fn gf) (eg : ∀ args w, (callFunc gf args).run P w = .ok (.enter gf args) w)
    {encs : α → Array Value} {G : List α → α → World → Prop} {S : List α → Prop} {w0 : World} (hseq : SeqG F (n - 1) P gf lb encs G S w0) (hb0 : Below w0.heap.size w0 w) (hps : ∀ x, (encs x).size = ps.size)
    (I : List α → World → Prop) (hI : OwnFrom w.heap.size I) (h0 : I [] w) (Ax : List α → α → Act → World → Prop) (hAx : ∀ pre x a', OwnFrom w.heap.size (fun (_ : Unit) W => Ax pre x a' W))
    (hassign : ∀ (l : Nat) (pre : List α) (x : α) (W : World) (K : Act → World → Prop), w.heap.size ≤ W.heap.size → I pre W → G pre x W → (∀ a' W', KeepsFrom w.heap.size W W' → KeepC W W' → I pre W' → Ax pre x a' W' → K a' W') →
      assign.wpIn (F.inRound l) (n - 1 - 1) P (Exit.then K (fun _ _ _ => False)) { tmps := (ps.zip (encs x)).foldl (fun t (p, v) => t.setIfInBounds p v) a.tmps, defers := [] } W)
    (hbody : ∀ (l : Nat) (pre : List α) (x : α) (a' : Act) (W : World), w.heap.size ≤ l → (∃ r, W.heap[l]? = some (.loop r)) → I pre W → Ax pre x a' W → body.wpIn (F.inRound l) (n - 1 - 1) P (OffEnd w.heap.size I (pre ++ [x]) W) a' W)
    (hdone : ∀ (D : Nat) (xs : List α) (W : World), w.heap.size ≤ D → S xs → I xs W → W.heap[D]? = some (.deferred (some [])) → Q .normal { a with defers := { target := .collected D, args := #[] } :: a.defers } W) :
    (Code.rangeFunc g ps assign body).wpIn F n P Q a w := by
  refine wpIn_rangeFunc fun fn hfn => ?_
  rw [hro]
  obtain ⟨rec, hrec⟩ : ∃ rec : LoopState → Loop, rec = fun st => { state := st, pending := none, fn, tmps := a.tmps, params := ps, assign, body, defers := w.heap.size } := ⟨_, rfl⟩
  obtain ⟨l, hl⟩ : ∃ l, l = w.heap.size + 1 := ⟨_, rfl⟩
  obtain ⟨W1, hW1⟩ : ∃ W1, W1 = (w.alloc (.deferred (some []))).alloc (.loop (rec .ready)) := ⟨_, rfl⟩
  have sz : W1.heap.size = w.heap.size + 2 := by rw [hW1]; simp
  -- the two blocks of the loop's own book-keeping
  obtain ⟨Bk, hBk⟩ : ∃ Bk : LoopState → World → Prop, Bk = fun st V => V.heap[l]? = some (.loop (rec st)) ∧ V.heap[w.heap.size]? = some (.deferred (some [])) := ⟨_, rfl⟩
  have bk1 : Bk .ready W1 := by
    rw [hBk, hl, hW1]
    refine ⟨?_, (Below.heap_alloc _ _ _ (by simp)).trans (World.alloc_heap_new w _)⟩
    have := World.alloc_heap_new (w.alloc (.deferred (some []))) (.loop (rec .ready))
    rwa [World.size_alloc] at this
  have turn : ∀ {st st' : LoopState} {V : World}, Bk st V → Bk st' (V.putObj l (.loop (rec st'))) := fun {st st' V} h => by
    rw [hBk] at h ⊢
    exact ⟨World.putObj_heap_same (Array.getElem?_eq_some_iff.1 h.1).1, (World.putObj_heap_other (by omega)).trans h.2⟩
  have keep : ∀ {st : LoopState} {V V' : World}, Bk st V → KeepsFrom w.heap.size V V' → Bk st V' := fun {st V V'} h k => by
    rw [hBk] at h ⊢
    exact ⟨k.same _ _ (by omega) h.1 rfl, k.same _ _ (Nat.le_refl _) h.2 rfl⟩
  have loop : ∀ {st : LoopState} {V : World}, Bk st V → V.heap[l]? = some (.loop (rec st)) := fun {st V} h => by rw [hBk] at h; exact h.1
  have def0 : ∀ {st : LoopState} {V : World}, Bk st V → V.heap[w.heap.size]? = some (.deferred (some [])) := fun {st V} h => by rw [hBk] at h; exact h.2
  have bkOwn : OwnFrom W1.heap.size (fun (_ : List α) V => Bk .ready V) := fun _ V V' row h hgr hr => by
    rw [hBk] at h ⊢
    have far : ∀ k, k < W1.heap.size → some k ≠ row := fun k hk e => by have := (hr k e.symm).1; omega
    exact ⟨(hgr.block _ (Array.getElem?_eq_some_iff.1 h.1).1 (far _ (by omega))).trans h.1, (hgr.block _ (Array.getElem?_eq_some_iff.1 h.2).1 (far _ (by omega))).trans h.2⟩
  have i1 : I [] W1 := by rw [hW1]; exact hI.alloc _ (hI.alloc _ h0)
  have bel : Below w.heap.size w W1 := by rw [hW1]; exact ((Below.refl _ w).alloc (Nat.le_refl _) _).alloc (by simp) _
  refine ⟨l, [{ target := .collected w.heap.size, args := #[] }], W1, { target := .fn (.func gf) lb, args := #[.func (.yield l) #[] #[]] }, W1, gf, #[.func (.yield l) #[] #[]] ++ lb, W1, ?_, ?_, ?_, ?_, fun _ => h1, ?_⟩
  · rw [hW1, hl, hrec]; exact run_enterLoop_outer _ _ _ _ _
  · simp only [resolve, hg]
    simp [go_sem]
  · intro f' hf'; simp [Target.leads] at hf'; subst hf'; exact hFg
  · simp [invoke, go_sem, eg]
  refine (hseq l (fun pre V => I pre V ∧ Bk .ready V ∧ w.heap.size ≤ V.heap.size) W1 (hb0.trans (bel.mono hb0.size))
    (fun s V V' row h hgr hr => ⟨hI s V V' row h.1 hgr fun r e => ⟨by have := (hr r e).1; omega, (hr r e).2⟩, bkOwn s V V' row h.2.1 hgr hr, Nat.le_trans h.2.2 hgr.size⟩) ?_ ⟨i1, bk1, by omega⟩).mono ?_
  · rintro pre x V ⟨hi, hb, hs⟩ hx
    have hy := run_yield (P := P) (args := encs x) (loop hb) (by rw [hrec]; exact hps x)
    rw [hrec] at hy
    refine ⟨fn, _, assign, body, hy, roundIn_of_wpIn hfn (hassign l pre x V _ hs hi hx fun a' V1 k1 c1 i1 ax1 => ?_)⟩
    have b1 := keep hb k1
    have hbeg : (Instr.beginRound l).run P V1 = .ok () (V1.putObj l (.loop (rec .busy))) := by
      have := run_beginRound (P := P) (loop b1) (by rw [hrec])
      rw [hrec] at this ⊢
      exact this
    refine ⟨_, hbeg, ?_⟩
    have b2 : Bk .busy (V1.putObj l (.loop (rec .busy))) := turn b1
    have bodyw := hbody l pre x a' (V1.putObj l (.loop (rec .busy))) (by omega) ⟨_, loop b2⟩ (hI.putObj _ i1 (by omega) (loop b1) rfl) ((hAx pre x a').putObj (s := ()) _ ax1 (by omega) (loop b1) rfl)
    refine wpIn_mono (Q := OffEnd w.heap.size I (pre ++ [x]) (V1.putObj l (.loop (rec .busy)))) bodyw fun e a3 V3 hp => ?_
    cases e with
    | normal =>
      obtain ⟨k3, c3, i3⟩ := hp
      have b3 := keep b2 k3
      have hend := run_endRound (P := P) none (loop b3)
      refine ⟨_, _, hend, rfl, ⟨hI.putObj _ i3 (by omega) (loop b3) rfl, ?_, ?_⟩, (c1.trans (KeepC.putObj _ (loop b1) rfl)).trans (c3.trans (KeepC.putObj _ (loop b3) rfl)), ((kf_wide k1 (by omega)).trans (KeepsFrom.of_grownBy (grownBy_putObj' _ _ _) fun j e => by cases e; omega)).trans ((kf_wide k3 (by omega)).trans (KeepsFrom.of_grownBy (grownBy_putObj' _ _ _) fun j e => by cases e; omega))⟩
      · have := turn (st' := .ready) b3
        rw [hrec] at this ⊢
        exact this
      · have q1 := k1.size
        have q3 := k3.size
        simp at q3 ⊢
        omega
    | ret => exact hp.elim
    | exit id => exact hp.elim
    | goto t => exact hp.elim
    | panic ch => exact hp.elim
    | outgrown => exact hp.elim
  · rintro e V ⟨⟨v, rfl⟩, xs, hS, hi, hb, _⟩
    have hend : (Instr.endLoop l).run P V = .ok none (V.putObj l (.loop { rec .ready with state := .exhausted })) := by
      have := run_endLoop (P := P) (loop hb) (by rw [hrec]; simp)
      rw [hrec] at this ⊢
      exact this
    exact ⟨none, _, hend, hdone _ xs _ (Nat.le_refl _) hS (hI.putObj _ hi (by omega) (loop hb) rfl) ((World.putObj_heap_other (by omega)).trans (def0 hb))⟩
end Go.Proofs.YtdopmmnabhcigaaGreatDoor

/- What is proved: what Tokens tells of any text: its tokens, in new memory. -/
namespace Go.Proofs.YtdopmmnabhcigaaGreatDoor
open Go.RowKit Go.Shelf
open Lx (T)

theorem extract_list (s : ByteArray) (a b : Nat) : s.extract a b = ⟨((s.data.toList.drop a).take (b - a)).toArray⟩ := by
  apply ByteArray.ext
  apply Array.toList_inj.1
  rw [Lib.extract_data]

theorem row_below {W W' : World} {base e sz n : Nat} {v : Value} {cs : List Value} (h : W.ownsRow base e sz v n cs) (hb : Below W.heap.size W W') : W'.ownsRow base e sz v n cs := by
  refine ⟨h.1, ?_⟩
  rcases h.2 with h' | ⟨g, cap, cur, h', h1, h2, h3⟩
  · exact .inl h'
  · exact .inr ⟨g, cap, cur, h', h1, (hb.block g (Array.getElem?_eq_some_iff.1 h2).1).trans h2, h3⟩

set_option maxRecDepth 100000 in
set_option maxHeartbeats 8000000 in
theorem tokens_any (f : Int) (s : ByteArray) (hs : s.size ≤ 1000000000) (w : World) (hG : Glob w) :
    Calls Tryz.prog 36 #[.int .i64 f, .string s] w (ToksPost w f (Lx.tk false (Sp.left 0 s.data.toList))) := by
  obtain ⟨i0, hi, hz0, hz1, hz2⟩ := info_parts infoTok
  have HG := Lib.hid hG
  clear hG
  have hll := Sp.left_le 0 s.data.toList
  rw [size_list] at hll
  obtain ⟨l, hl⟩ : ∃ l, l = Sp.left 0 s.data.toList := ⟨_, rfl⟩
  rw [← hl] at hll ⊢
  have HL := Lib.hid hl
  have HP : Hid (∀ x ∈ l, x.2 < s.size) := Lib.hid (fun x hx => by rw [hl] at hx; have := Sp.left_lt hx; rw [size_list] at this; omega)
  clear hl
  go_enter Tryz.func36, Tryz.ntmps36
  go_wp2_with fail
  refine (join_any s (by omega) _ HG.out).mono ?_
  rintro e w1 ⟨cv, rfl, hcv, hB1⟩
  rw [← HL.out] at hcv
  obtain ⟨ad, cap, rfl, hc1, hc2, -⟩ := id hcv
  unfold maxLen at hc2
  go_wp2_with fail
  refine (text_any _ l _ hcv (by omega)).mono ?_
  rintro e w2 ⟨rfl, hB2⟩
  replace hcv := hcv.below hB2
  replace hB2 : Below w.heap.size w w2 := Below.trans hB1 (hB2.mono hB1.size)
  have hG2 := Lib.hid (HG.out.later hB2)
  obtain ⟨S, hS⟩ : ∃ S : ByteArray, S = ⟨(l.map Prod.fst).toArray⟩ := ⟨_, rfl⟩
  have hSl : S.data.toList = Lx.bytes l := by rw [hS]; rfl
  have hSz : S.size = l.length := by rw [hS, mk_size]; simp
  rw [← hS]
  rw [← hSz] at hll hc1 hcv ⊢
  have Hn := Lib.hid hSz
  have HS := Lib.hid hSl
  have HC := Lib.hid hcv
  have HB2 := Lib.hid hB2
  clear hS hSl hSz hcv hB1 hB2
  go_wp2_with fail
  go_loopw [7, 8, 9] (fun o p a wr => ∃ (k : Nat) (P : Bool) (acc : List T), a = .int .i64 k ∧ p = .bool P ∧ Sofar l k P acc ∧ wr.ownsRow w2.heap.size 50 6 o acc.length (tokCells f acc) ∧ Below w2.heap.size w2 wr) (fun _ _ a _ => S.size - (intOf a).toNat)
  case atStart => exact ⟨0, false, [], rfl, rfl, sofar_start _, World.ownsRow_nil _ _ _ _, Below.refl _ _⟩
  case round =>
    obtain ⟨k, P, acc, rfl, rfl, hsf, hrow, hB⟩ := hrel
    have hkl := hsf.1
    have hal := hsf.2.1
    rw [← Hn.out] at hkl
    by_cases hlt : k < S.size
    · have hlt' : k < l.length := by rw [← Hn.out]; exact hlt
      obtain ⟨B, hBk⟩ : ∃ B, B = Lx.blankLen (Lx.bytes (l.drop k)) := ⟨_, rfl⟩
      have HBk := Lib.hid hBk
      have hGr := Lib.hid (hG2.out.later hB)
      by_cases hb : 0 < B
      · obtain ⟨h1, h2⟩ := sofar_blank hsf (by rw [← hBk]; exact hb)
        rw [← hBk, ← Hn.out] at h1
        rw [← hBk] at h2
        clear hBk
        go_wp2_with fail
        refine (blank_any _ (by simp; omega) (by simp; omega) _ hGr.out).mono ?_
        rintro e w' ⟨rfl, rfl⟩
        rw [Lib.extract_to_end, HS.out, ← Lx.bytes_drop, ← HBk.out]
        go_wp2_with fail
        go_roundw
        case rel => exact ⟨k + B, true, acc, by go_num, rfl, h2, hrow, hB⟩
        case measure => simp [intOf]; omega
      · have hb0 : B = 0 := by omega
        obtain ⟨h1, h2, h3⟩ := sofar_tok hsf hlt' (by rw [← hBk]; exact hb0)
        obtain ⟨q, hq⟩ : ∃ q, q = Lx.first (Lx.bytes (l.drop k)) := ⟨_, rfl⟩
        obtain ⟨t, ht⟩ : ∃ t, t = Lx.tokAt P (l.drop k) := ⟨_, rfl⟩
        have htk : t.kind = q.1 := by rw [ht, hq]; rfl
        have htt : t.text = (Lx.bytes (l.drop k)).take q.2 := by rw [ht, hq]; rfl
        have htb : t.bl = P := by rw [ht]; rfl
        have htf : t.fr = (l.getD k (0, 0)).2 := by rw [ht]; unfold Lx.tokAt; simp [List.getD_eq_getElem?_getD]
        have hto : t.to = (l.getD (k + (q.2 - 1)) (0, 0)).2 + 1 := by rw [ht, hq]; unfold Lx.tokAt; simp [List.getD_eq_getElem?_getD]
        rw [← hq] at h1 h2 h3
        rw [← ht] at h3
        rw [← Hn.out] at h2
        obtain ⟨kd, m⟩ := q
        dsimp only at h1 h2 h3 htk htt hto
        have hxk : l[k]? = some (l.getD k (0, 0)) := by rw [List.getD_eq_getElem?_getD, List.getElem?_eq_getElem hlt']; rfl
        have hjl : k + (m - 1) < l.length := by rw [← Hn.out]; omega
        have hxj : l[k + (m - 1)]? = some (l.getD (k + (m - 1)) (0, 0)) := by rw [List.getD_eq_getElem?_getD, List.getElem?_eq_getElem hjl]; rfl
        have hpj := HP.out _ (List.mem_of_getElem? hxj)
        obtain ⟨g, o, had, -, -, -, hg, hcell⟩ := HC.out.cells (by omega)
        have c1 := (hcell k _ hxk).2
        have c2 := (hcell _ _ hxj).2
        rw [← htf] at c1
        obtain ⟨tl, htl⟩ : ∃ tl, tl = (l.getD (k + (m - 1)) (0, 0)).2 := ⟨_, rfl⟩
        rw [← htl] at c2 hto hpj
        subst had
        have HQ := Lib.hid hq
        have H3 := Lib.hid h3
        have HTk := Lib.hid htk
        have HTt := Lib.hid htt
        have HTo := Lib.hid hto
        have HTb := Lib.hid htb
        obtain ⟨j, hj⟩ : ∃ j, j = k + (m - 1) := ⟨_, rfl⟩
        rw [← hj] at c2
        have Hj := Lib.hid hj
        obtain ⟨fr, hfr⟩ : ∃ fr, fr = t.fr := ⟨_, rfl⟩
        rw [← hfr] at c1
        have HFr := Lib.hid hfr
        clear hq ht htk htt htb htf hto h3 hxk hjl hxj hcell htl hBk hfr hsf hj
        go_wp2_with fail
        refine (blank_any _ (by simp; omega) (by simp; omega) _ hGr.out).mono ?_
        rintro e w' ⟨rfl, rfl⟩
        rw [Lib.extract_to_end, HS.out, ← Lx.bytes_drop, ← HBk.out]
        go_wp2_with fail
        refine (first_any _ (by simp; omega) (by simp; omega) _ hGr.out).mono ?_
        rintro e w3 ⟨rfl, hB3⟩
        rw [Lib.extract_to_end, HS.out, ← Lx.bytes_drop, ← HQ.out]
        replace hrow := row_below hrow hB3
        replace hB3 : Below w2.heap.size w2 w3 := hB.trans (hB3.mono hB.size)
        have d1 : w3.cell? ⟨g, o + k * 2 + 1, none⟩ = some (.int .i64 fr) := (hB3.cell (p := ⟨g, o + k * 2 + 1, none⟩) hg).trans c1
        have d2 : w3.cell? ⟨g, o + j * 2 + 1, none⟩ = some (.int .i64 tl) := (hB3.cell (p := ⟨g, o + j * 2 + 1, none⟩) hg).trans c2
        clear hB c1 c2
        go_wp2_with fail
        have ag : u7.ownBlock ≠ some g := fun e => by have := (hrow.lt g e).1; omega
        have hw3 := hB3.size
        have z0 : (0 : Int) ≤ k := by omega
        have z1 : (k : Int) < S.size := by omega
        have z2 : (k : Int) ≤ (k : Int) + m := by omega
        have z3 : (k : Int) + m ≤ S.size := by omega
        have z4 : (0 : Int) ≤ (j : Int) := by omega
        have z5 : (j : Int) < S.size := by have := Hj.out; omega
        have z6 : (0 : Int) ≤ (k : Int) + m := by omega
        have hbb : (acc.length + 1) * 56 ≤ 140737488355328 := by omega
        have hmx : acc.length + 1 ≤ maxLen := by unfold maxLen; omega
        have e4 : ((k : Int) + m).toNat = k + m := by omega
        have e1 : IntKind.i64.wrap ((k : Int) + m) = (k : Int) + m := IntWalk.i64_in _ (by omega)
        have e2 : IntKind.i64.wrap ((k : Int) + m - 1) = (j : Int) := by rw [IntWalk.i64_in _ (by omega)]; have := Hj.out; omega
        have e3 : IntKind.i64.wrap ((tl : Int) + 1) = (tl : Int) + 1 := IntWalk.i64_in _ (by omega)
        go_region_held3 (fun w' => w'.cell? ⟨g, o + k * 2 + 1, none⟩ = some (.int .i64 fr) ∧ w'.cell? ⟨g, o + j * 2 + 1, none⟩ = some (.int .i64 tl))
          (first
            | go_keep
            | (go_split_ands
               refine ⟨?_, ?_⟩
               · (rw [hgrow.cell_far _ (by simp; omega) (Ne.symm ag)]; assumption)
               · (rw [hgrow.cell_far _ (by simp; omega) (Ne.symm ag)]; assumption)))
          ((refine step_append_lies _ (by rfl) _ _ _ (by rfl) w2.heap.size 50 i0 _ 6 56 Tryz.underlying42 hi hz0 hz1 hz2 rfl (by omega) u7 acc.length (tokCells f acc) (by rfl) ((hrow.alloc _).drew)
              ⟨w3.heap.size, 0, none⟩ 1 1 [.int .i64 kd, .string (S.extract k (k + m)), .int .i64 f, .int .i64 fr, .int .i64 ((tl : Int) + 1), .bool P] (by rfl) (by rfl) (World.news_of_block (cs := #[.int .i64 kd, .string (S.extract k (k + m)), .int .i64 f, .int .i64 fr, .int .i64 ((tl : Int) + 1), .bool P]) (t := 50) (fr := (0, 0)) (heap_alloc_new w3 _)) (by simp [Value.oneCell'])
              (by omega) hmx hbb (by simp; omega) (w3.heap.size + 1) (by simp) ?_; intro gg cap' w4 hown1 hgrow hat hlt4))
        clear e1 e2 e3 e4
        go_wp2_with fail
        go_roundw
        case rel =>
          refine ⟨k + m, false, acc ++ [t], by go_num, rfl, H3.out, ?_, ?_⟩
          · have hx : S.extract k (k + m) = ⟨t.text.toArray⟩ := by rw [extract_list, HS.out, ← Lx.bytes_drop, HTt.out, show k + m - k = m by omega]
            have hc : tokCells f (acc ++ [t]) = tokCells f acc ++ [.int .i64 kd, .string (S.extract k (k + m)), .int .i64 f, .int .i64 fr, .int .i64 ((tl : Int) + 1), .bool P] := by
              rw [tokCells_append, hx, HFr.out, show ((tl : Int) + 1) = ((t.to : Nat) : Int) by rw [HTo.out]; rfl, ← HTb.out, ← HTk.out]
              simp [tokCells, cellsOne]
            rw [hc, List.length_append]
            exact hown1
          · exact ((hB3.alloc hw3 _).drew).grown hgrow (by simp; omega) (fun i ei => (hrow.lt i ei).1)
        case measure => simp [intOf]; omega
    · have he := sofar_end hsf (by rw [← Hn.out]; omega)
      go_wp2_with fail
      go_ret
      rw [← he]
      exact ⟨_, rfl, Toks.of_row hrow, HB2.out.trans (hB.mono HB2.out.size)⟩
end Go.Proofs.YtdopmmnabhcigaaGreatDoor

/- What is proved: what the document's own is, blank, word, number, quoted, sign and next tell of a text at a place. -/
namespace Go.Proofs.YtdopmmnabhcigaaGreatDoor
open Go.RowKit Go.Shelf

theorem ba_beq (a b : ByteArray) : (a.toList == b.toList) = decide (a = b) := by
  rw [Bool.eq_iff_iff, beq_iff_eq, decide_eq_true_iff, Lib.toList_data, Lib.toList_data]
  constructor
  · intro e
    apply ByteArray.ext
    exact Array.toList_inj.1 e
  · intro e; rw [e]
theorem is_pre (s p : ByteArray) (i : Nat) : p.data.toList.isPrefixOf (s.data.toList.drop i) = decide (s.extract i (i + p.size) = p) := by
  rw [Bool.eq_iff_iff, List.isPrefixOf_iff_prefix, List.prefix_iff_eq_take, decide_eq_true_iff, extract_list, size_list, show i + p.size - i = p.size by omega]
  constructor
  · intro e
    apply ByteArray.ext
    apply Array.toList_inj.1
    rw [← e]
  · intro e
    exact (congrArg (fun b : ByteArray => b.data.toList) e).symm
theorem is_short (s p : ByteArray) (i : Nat) (h : ¬ i + p.size ≤ s.size) (hp : 0 < p.size) : p.data.toList.isPrefixOf (s.data.toList.drop i) = false := by
  refine pre_no _ _ ?_
  rw [List.length_drop, size_list, size_list]; omega

theorem isBl_range (c : UInt8) : Lx.isBl c = (((c.toNat : Int) == 32) || ((c.toNat : Int) == 9) || (decide (11 ≤ (c.toNat : Int)) && decide ((c.toNat : Int) ≤ 13))) := by
  rw [isBl_int, Bool.eq_iff_iff]
  simp
  omega
/-- Where what begins at k ends; i, if it is not closed. -/
def cend (i k : Nat) : Option Nat → Nat
  | none => i
  | some m => k + m + 2
theorem clos_hit (l : List UInt8) (h : [42, 47].isPrefixOf l = true) : Lx.clos l = some 0 := by
  match l, h with
  | c :: d :: r, h =>
    have e : Lx.clos (c :: d :: r) = if c = 42 ∧ d = 47 then some 0 else (Lx.clos (d :: r)).map (· + 1) := rfl
    simp only [List.isPrefixOf, Bool.and_true, Bool.and_eq_true, beq_iff_eq] at h
    rw [e, if_pos ⟨h.1.symm, h.2.symm⟩]
  | [c], h => simp [List.isPrefixOf] at h
  | [], h => simp [List.isPrefixOf] at h
theorem clos_on (c : UInt8) (r : List UInt8) (h : [42, 47].isPrefixOf (c :: r) = false) : Lx.clos (c :: r) = (Lx.clos r).map (· + 1) := by
  match r, h with
  | [], _ => rfl
  | d :: r, h =>
    have e : Lx.clos (c :: d :: r) = if c = 42 ∧ d = 47 then some 0 else (Lx.clos (d :: r)).map (· + 1) := rfl
    rw [e, if_neg]
    rintro ⟨rfl, rfl⟩
    simp [List.isPrefixOf] at h
theorem cend_map (i k : Nat) (o : Option Nat) : cend i k (o.map (· + 1)) = cend i (k + 1) o := by
  cases o with
  | none => rfl
  | some m => simp [cend]; omega
theorem pre_two (a b : UInt8) (l : List UInt8) (h : [a, b].isPrefixOf l = true) : ∃ r, l = a :: b :: r := by
  obtain ⟨r, e⟩ := List.isPrefixOf_iff_prefix.1 h
  exact ⟨r, e.symm⟩
theorem comment_line (l : List UInt8) (h : [47, 47].isPrefixOf l = true) : Lx.commentLen l = Lx.lineLen l := by
  obtain ⟨r, rfl⟩ := pre_two _ _ _ h
  rw [Lx.commentLen_cons, if_pos ⟨rfl, rfl⟩]
theorem comment_block (l : List UInt8) (h : [47, 42].isPrefixOf l = true) (i : Nat) : 2 ≤ l.length ∧ i + Lx.commentLen l = cend i (i + 2) (Lx.clos (l.drop 2)) := by
  obtain ⟨r, rfl⟩ := pre_two _ _ _ h
  refine ⟨by simp, ?_⟩
  rw [Lx.commentLen_cons, if_neg (by decide), if_pos ⟨rfl, rfl⟩, List.drop_succ_cons, List.drop_succ_cons, List.drop_zero]
  cases Lx.clos r with
  | none => rfl
  | some m => simp [Lx.upto, cend]; omega
theorem comment_no (l : List UInt8) (h1 : [47, 47].isPrefixOf l = false) (h2 : [47, 42].isPrefixOf l = false) : Lx.commentLen l = 0 := by
  match l, h1, h2 with
  | [], _, _ => rfl
  | [c], _, _ => rfl
  | c :: d :: r, h1, h2 =>
    rw [Lx.commentLen_cons, if_neg, if_neg]
    · rintro ⟨rfl, rfl⟩; simp [List.isPrefixOf] at h2
    · rintro ⟨rfl, rfl⟩; simp [List.isPrefixOf] at h1
theorem line_yes (c : UInt8) (r : List UInt8) (h : c ≠ 10) : Lx.lineLen (c :: r) = 1 + Lx.lineLen r := by
  unfold Lx.lineLen
  rw [List.takeWhile_cons, if_pos (by simpa using h)]; simp; omega
theorem line_no (r : List UInt8) : Lx.lineLen (10 :: r) = 0 := by
  unfold Lx.lineLen
  rw [List.takeWhile_cons, if_neg (by simp)]; rfl

/-- How long the name is with which a text begins, 0 if it begins with none. -/
def rword : List UInt8 → Nat
  | [] => 0
  | c :: r => if Lx.letter c then Lx.wordLen (c :: r) else 0
theorem rword_cons (c : UInt8) (r : List UInt8) : rword (c :: r) = if Lx.letter c then Lx.wordLen (c :: r) else 0 := rfl

end Go.Proofs.YtdopmmnabhcigaaGreatDoor

/- What is proved: what the document's own number and quoted tell of a text at a place. -/
namespace Go.Proofs.YtdopmmnabhcigaaGreatDoor
open Go.RowKit Go.Shelf

theorem expo_cons (s : ByteArray) (k : Nat) (h : k + 1 < s.size) : expo (s.data.toList.drop k) = (Lx.isE s[k] && Lx.isSg s[k + 1]) := by
  rw [drop_at s k (by omega), drop_at s (k + 1) h]; rfl
theorem expo_last (s : ByteArray) (k : Nat) (h : ¬ k + 1 < s.size) : expo (s.data.toList.drop k) = false := by
  have hl : (s.data.toList.drop k).length < 2 := by rw [List.length_drop, size_list]; omega
  match s.data.toList.drop k, hl with
  | [], _ => rfl
  | [c], _ => rfl
theorem isE_letter (c : UInt8) (h : Lx.isE c = true) : Lx.letter c = true := by
  rw [isE_int] at h
  rw [letter_int]
  simp at h ⊢
  omega

/-- Does a sign stand behind a place? -/
def sgAt (s : ByteArray) (k : Nat) : Bool := if h : k + 1 < s.size then Lx.isSg s[k + 1] else false
theorem expo_sg (s : ByteArray) (k : Nat) (h : k < s.size) : expo (s.data.toList.drop k) = (Lx.isE s[k] && sgAt s k) := by
  unfold sgAt
  by_cases h2 : k + 1 < s.size
  · rw [dif_pos h2, expo_cons s k h2]
  · rw [dif_neg h2, expo_last s k h2, Bool.and_false]
theorem sg_cases (s : ByteArray) (k : Nat) : (sgAt s k = false ∧ ¬ k + 1 < s.size) ∨ (sgAt s k = true ∧ ∃ h : k + 1 < s.size, ((s[k + 1].toNat : Int) == 43) = true) ∨
    (sgAt s k = true ∧ ∃ h : k + 1 < s.size, ((s[k + 1].toNat : Int) == 43) = false ∧ ((s[k + 1].toNat : Int) == 45) = true) ∨ (sgAt s k = false ∧ ∃ h : k + 1 < s.size, ((s[k + 1].toNat : Int) == 43) = false ∧ ((s[k + 1].toNat : Int) == 45) = false) := by
  unfold sgAt
  by_cases h2 : k + 1 < s.size
  · rw [dif_pos h2]
    have hsg := isSg_int s[k + 1]
    rw [hsg]
    cases h3 : ((s[k + 1].toNat : Int) == 43) with
    | true => exact .inr (.inl ⟨rfl, h2, h3⟩)
    | false =>
      cases h4 : ((s[k + 1].toNat : Int) == 45) with
      | true => exact .inr (.inr (.inl ⟨rfl, h2, h3, h4⟩))
      | false => exact .inr (.inr (.inr ⟨rfl, h2, h3, h4⟩))
  · rw [dif_neg h2]
    exact .inl ⟨rfl, h2⟩

theorem isE_cases (c : UInt8) (h : Lx.isE c = true) : ((c.toNat : Int) == 101) = true ∨ (((c.toNat : Int) == 101) = false ∧ ((c.toNat : Int) == 69) = true) ∨ (((c.toNat : Int) == 101) = false ∧ ((c.toNat : Int) == 69) = false ∧ ((c.toNat : Int) == 112) = true) ∨
    (((c.toNat : Int) == 101) = false ∧ ((c.toNat : Int) == 69) = false ∧ ((c.toNat : Int) == 112) = false ∧ ((c.toNat : Int) == 80) = true) := by
  rw [isE_int] at h
  revert h
  cases ((c.toNat : Int) == 101) <;> cases ((c.toNat : Int) == 69) <;> cases ((c.toNat : Int) == 112) <;> cases ((c.toNat : Int) == 80) <;> simp
theorem isE_none (c : UInt8) (h : Lx.isE c = false) : ((c.toNat : Int) == 101) = false ∧ ((c.toNat : Int) == 69) = false ∧ ((c.toNat : Int) == 112) = false ∧ ((c.toNat : Int) == 80) = false := by
  rw [isE_int] at h
  revert h
  cases ((c.toNat : Int) == 101) <;> cases ((c.toNat : Int) == 69) <;> cases ((c.toNat : Int) == 112) <;> cases ((c.toNat : Int) == 80) <;> simp
theorem numc_cases (c : UInt8) : (Lx.numc c = true ∧ (Lx.letter c = true ∨ (Lx.letter c = false ∧ Lx.digit c = true) ∨ (Lx.letter c = false ∧ Lx.digit c = false ∧ ((c.toNat : Int) == 46) = true))) ∨ (Lx.numc c = false ∧ Lx.letter c = false ∧ Lx.digit c = false ∧ ((c.toNat : Int) == 46) = false) := by
  rw [numc_parts]
  cases Lx.letter c <;> cases Lx.digit c <;> cases ((c.toNat : Int) == 46) <;> simp

/-- The round of number, from a place on: what it leaves is told. -/
theorem num_step (s : ByteArray) (i k R : Nat) (hk : i + k < s.size) (he : R = k + Lx.numRest (s.data.toList.drop (i + k))) :
    (expo (s.data.toList.drop (i + k)) = true → i + k + 2 ≤ s.size ∧ R = (k + 2) + Lx.numRest (s.data.toList.drop (i + (k + 2)))) ∧
    (expo (s.data.toList.drop (i + k)) = false → Lx.numc s[i + k] = true → R = (k + 1) + Lx.numRest (s.data.toList.drop (i + (k + 1)))) ∧
    (expo (s.data.toList.drop (i + k)) = false → Lx.numc s[i + k] = false → R = k) := by
  refine ⟨fun hx => ?_, fun hx hc => ?_, fun hx hc => ?_⟩
  · obtain ⟨h2, hn⟩ := num_two _ hx
    rw [List.length_drop, size_list] at h2
    rw [List.drop_drop] at hn
    refine ⟨by omega, ?_⟩
    rw [he, hn, show i + (k + 2) = i + k + 2 by omega]; omega
  · rw [drop_at s (i + k) hk] at hx he
    rw [he, num_one _ _ hx hc, show i + (k + 1) = i + k + 1 by omega]; omega
  · rw [drop_at s (i + k) hk] at hx he
    rw [he, num_no _ _ hx hc]; rfl

end Go.Proofs.YtdopmmnabhcigaaGreatDoor

/- What is proved: what the document's own quoted and sign tell of a text at a place. -/
namespace Go.Proofs.YtdopmmnabhcigaaGreatDoor
open Go.RowKit Go.Shelf

/-- How long what stands between two quotes is, nothing between single ones being none. -/
def rq (q : UInt8) (l : List UInt8) : Nat := if q = 39 ∧ Lx.closedLen q l = 2 then 0 else Lx.closedLen q l

/-- A slice of texts. -/
def Strs (W : World) (b : Nat) (L : List (List UInt8)) : Prop := ∀ k x, L[k]? = some x → W.cell? ⟨b, k, none⟩ = some (.string ⟨x.toArray⟩)
theorem any_take_succ (L : List (List UInt8)) (l : List UInt8) (k : Nat) (h : k < L.length) : (L.take (k + 1)).any (·.isPrefixOf l) = ((L.take k).any (·.isPrefixOf l) || L[k].isPrefixOf l) := by
  rw [List.take_succ_eq_append_getElem h, List.any_append]; simp

end Go.Proofs.YtdopmmnabhcigaaGreatDoor

/- What is proved: what the document's own next and Tokens tell. -/
namespace Go.Proofs.YtdopmmnabhcigaaGreatDoor
open Go.RowKit Go.Shelf
open Lx (T)

end Go.Proofs.YtdopmmnabhcigaaGreatDoor

/- What is proved: what the document's own Tokens tells of any text. -/
namespace Go.Proofs.YtdopmmnabhcigaaGreatDoor
open Go.RowKit Go.Shelf
open Lx (T)

end Go.Proofs.YtdopmmnabhcigaaGreatDoor

/- What is proved: what Kind and Word, and the document's own Kind, tell of any word and any number. -/
namespace Go.Proofs.YtdopmmnabhcigaaGreatDoor
open Go.RowKit Go.Shelf

theorem idx_word (A : Array Value) (v : Value) (k : Nat) (hA : A[k]? = some v) (hk : (k : Int) < 12) (W : World) : (Instr.index 114 (.agg A) (.int .i64 k)).run Tryz.prog W = .ok v W := by
  simp [Instr.index, run_underlying Tryz.underlying114, asIntOf, part, Tryz.isAgg9, Tryz.sizeOf9, hA, go_sem]
  intro h
  omega

set_option maxHeartbeats 4000000 in
set_option maxRecDepth 100000 in
theorem kind_any (x : ByteArray) (w : World) (hG : Glob w) : Calls Tryz.prog 58 #[.string x] w fun e w' => e = .returned (.int .i64 (Dx.kindOf x)) ∧ w = w' := by
  obtain ⟨_, _, tt, fz, hblk⟩ := hG
  have HW := Lib.hid Dx.word_cell
  have hsz : (Tryz.prog.info? 114).map (·.size) = some wordCells.size := by kernel_rfl
  obtain ⟨A, hA⟩ : ∃ A, A = wordCells := ⟨_, rfl⟩
  rw [← hA] at hblk hsz
  have HA := Lib.hid hA
  obtain ⟨R, hR⟩ : ∃ R, R = Dx.kindOf x := ⟨_, rfl⟩
  rw [← hR]
  have HR := Lib.hid hR
  clear hA hR
  go_enter Tryz.func58, Tryz.ntmps58
  go_wp2_with (with_reducible refine wpList_load_row rfl 114 _ rfl 0 rfl tt A fz (.array 12 9) hblk Tryz.underlying114 rfl hsz ?_)
  go_loop [6] (fun i => ∃ k : Nat, i = .int .i64 k ∧ k ≤ 12 ∧ Dx.noneTo x k) (fun i => 12 - (intOf i).toNat)
  case atStart => exact ⟨0, rfl, by omega, Dx.noneTo_zero x⟩
  case round =>
    obtain ⟨k, rfl, hk, hno⟩ := hrel
    have HN := Lib.hid hno
    clear hno hblk hsz
    by_cases hlt : k < 12
    · obtain ⟨S, hS⟩ : ∃ S : ByteArray, S = Dx.wordAt k := ⟨_, rfl⟩
      have hck := HW.out k hlt
      rw [← hS, ← HA.out] at hck
      have hkz : (k : Int) < 12 := by omega
      have hidx := idx_word A (.string S) k hck hkz
      have HS := Lib.hid hS
      clear hS hck
      by_cases hx : S = x
      · have t1 : (S.toList == x.toList) = true := by rw [ba_beq]; simpa using hx
        have HX := Lib.hid hx
        clear hx
        go_wp2_with fail
        go_ret
        refine ⟨ret_int ?_, rfl⟩
        rw [HR.out, ← HX.out, HS.out, Dx.kind_hit k hlt]
        omega
      · have t1 : (S.toList == x.toList) = false := by rw [ba_beq]; simpa using hx
        have HX := Lib.hid hx
        clear hx
        go_wp2_with fail
        go_round
        case rel => exact ⟨k + 1, by go_num, by omega, Dx.noneTo_succ HN.out (fun e => HX.out (by rw [HS.out, e]))⟩
        case measure => simp [intOf]; omega
    · have hk : k = 12 := by omega
      subst hk
      go_wp2_with fail
      go_ret
      exact ⟨ret_int (by rw [HR.out, Dx.kind_miss x HN.out]), rfl⟩
end Go.Proofs.YtdopmmnabhcigaaGreatDoor
