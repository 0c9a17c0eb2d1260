/- Trees of items and branches in memory; slices of ints and of lines. -/
import Derived.Test.YtjmbchemdcmegaaProg
import Derived.Test.YtjmbchemdcmegaaCu
import Derived.WalkKit
import Derived.WalkSpells
import Derived.WalkLawsBesides
import Derived.Lib.Hide
import Derived.Deep.Draws
import Derived.Deep.AppendLies
import Derived.Deep.QuietTactic
import Derived.BigQuiet
import Derived.RegionTactic
import Derived.Deep.RegionHeld3
import Derived.Maps.AppendAt
import Derived.IntWalk
import Derived.Laws.OwnMore
import Derived.OneCell
import Derived.WalkSmall
namespace Go.Proofs.Ytjmbchemdcmegaa
open Go.RowKit
open Ct Ct.T

theorem lt_of_cell {w : World} {a : Addr} {v : Value} (h : w.cell? a = some v) : a.block < w.heap.size := by
  unfold World.cell? at h
  rcases Nat.lt_or_ge a.block w.heap.size with hlt | hge
  · exact hlt
  · rw [Array.getElem?_eq_none hge] at h; cases h
theorem add_none (b o j : Nat) : (⟨b, o, none⟩ : Addr).add j = ⟨b, o + j, none⟩ := by
  unfold Addr.add; split <;> simp_all
theorem Below.then {w w1 w2 : World} (h : Below w.heap.size w w1) (k : Below w1.heap.size w1 w2) : Below w.heap.size w w2 := h.trans (k.mono h.size)
def TruePost (w : World) (e : Ending) (w' : World) : Prop := e = .returned (.bool true) ∧ Below w.heap.size w w'
theorem row_below {W W' : World} {base e sz n : Nat} {v : Value} {cs : List Value} (h : W.ownsRow base e sz v n cs) (hb : Below W.heap.size W W') : W'.ownsRow base e sz v n cs := by
  refine ⟨h.1, ?_⟩
  rcases h.2 with h' | ⟨g, cap, cur, h', h1, h2, h3⟩
  · exact .inl h'
  · exact .inr ⟨g, cap, cur, h', h1, (hb.block g (Array.getElem?_eq_some_iff.1 h2).1).trans h2, h3⟩
theorem row_heap {W W' : World} {base e sz n : Nat} {v : Value} {cs : List Value} (h : W.ownsRow base e sz v n cs) (hb : ∀ k, v.ownBlock = some k → W'.heap[k]? = W.heap[k]?) : W'.ownsRow base e sz v n cs := by
  refine ⟨h.1, ?_⟩
  rcases h.2 with h' | ⟨g, cap, cur, h', h1, h2, h3⟩
  · exact .inl h'
  · exact .inr ⟨g, cap, cur, h', h1, (hb g (by rw [h']; rfl)).trans h2, h3⟩
theorem row_base {W : World} {base base' e sz n : Nat} {v : Value} {cs : List Value} (h : W.ownsRow base e sz v n cs) (hb : base' ≤ base) : W.ownsRow base' e sz v n cs := by
  refine ⟨h.1, ?_⟩
  rcases h.2 with h' | ⟨g, cap, cur, h', h1, h2, h3⟩
  · exact .inl h'
  · exact .inr ⟨g, cap, cur, h', Nat.le_trans hb h1, h2, h3⟩

/-- A slice of n elements whose cells are as said, in blocks that may be used. -/
def SlP (W : World) (ok : Nat → Prop) (v : Value) (n : Nat) (C : List Value → Prop) : Prop :=
  ∃ ad cap, v = .slice ad n cap ∧ n ≤ cap ∧ cap ≤ maxLen ∧ (0 < n → ∃ g o xs, ad = some ⟨g, o, none⟩ ∧ ok g ∧ g < W.heap.size ∧ (∀ j u, xs[j]? = some u → W.cell? ⟨g, o + j, none⟩ = some u) ∧ C xs)
theorem SlP.mono {W W' : World} {ok ok' : Nat → Prop} {v : Value} {n : Nat} {C C' : List Value → Prop} (h : SlP W ok v n C) (hk : ∀ g, ok g → g < W.heap.size → ok' g ∧ W'.heap[g]? = W.heap[g]?) (hC : ∀ xs, C xs → C' xs) : SlP W' ok' v n C' := by
  obtain ⟨ad, cap, rfl, h1, h2, h3⟩ := h
  refine ⟨ad, cap, rfl, h1, h2, fun hn => ?_⟩
  obtain ⟨g, o, xs, e, hg, hlt, hc, hx⟩ := h3 hn
  have hb := (hk g hg hlt).2
  refine ⟨g, o, xs, e, (hk g hg hlt).1, ?_, fun j u hj => (World.cell?_of_block (a := ⟨g, o + j, none⟩) hb).trans (hc j u hj), hC _ hx⟩
  rw [Array.getElem?_eq_getElem hlt] at hb
  exact (Array.getElem?_eq_some_iff.1 hb).1

/-- Cells of items (or of branches). -/
def CT (W : World) (ok : Nat → Prop) : Bool → List Value → T → Prop
  | _, xs, nil => xs = []
  | true, xs, cons l e s r => ∃ v ys, xs = .int .i64 l :: .int .i64 e :: v :: ys ∧ SlP W ok v s.len (fun zs => CT W ok false zs s) ∧ CT W ok true ys r
  | false, xs, cons l _ s r => ∃ v ys, xs = .int .i64 l :: v :: ys ∧ SlP W ok v s.len (fun zs => CT W ok true zs s) ∧ CT W ok false ys r
/-- A slice of items (or of branches). -/
def TS (W : World) (ok : Nat → Prop) (b : Bool) (v : Value) (t : T) : Prop := SlP W ok v t.len (fun xs => CT W ok b xs t)
def wid : Bool → Nat
  | true => 3
  | false => 2

theorem CT.keep {W W' : World} {ok ok' : Nat → Prop} (hk : ∀ g, ok g → g < W.heap.size → ok' g ∧ W'.heap[g]? = W.heap[g]?) (t : T) : ∀ (b : Bool) (xs : List Value), CT W ok b xs t → CT W' ok' b xs t := by
  induction t with
  | nil => intro b xs h; cases b <;> exact h
  | cons l e s r ihs ihr =>
    intro b xs h
    cases b with
    | true => obtain ⟨v, ys, rfl, h1, h2⟩ := h; exact ⟨v, ys, rfl, h1.mono hk (fun _ => ihs _ _), ihr _ _ h2⟩
    | false => obtain ⟨v, ys, rfl, h1, h2⟩ := h; exact ⟨v, ys, rfl, h1.mono hk (fun _ => ihs _ _), ihr _ _ h2⟩
theorem TS.keep {W W' : World} {ok ok' : Nat → Prop} {b : Bool} {v : Value} {t : T} (h : TS W ok b v t) (hk : ∀ g, ok g → g < W.heap.size → ok' g ∧ W'.heap[g]? = W.heap[g]?) : TS W' ok' b v t :=
  h.mono hk (fun _ => CT.keep hk t b _)
theorem TS.below {W W' : World} {B : Nat} {b : Bool} {v : Value} {t : T} (h : TS W (· < B) b v t) (hb : Below B W W') : TS W' (· < B) b v t :=
  h.keep fun g hg _ => ⟨hg, hb.block g hg⟩
theorem TS.wider {W : World} {B B' : Nat} {b : Bool} {v : Value} {t : T} (h : TS W (· < B) b v t) (hb : B ≤ B') : TS W (· < B') b v t :=
  h.keep fun _ hg _ => ⟨Nat.lt_of_lt_of_le hg hb, rfl⟩
theorem TS.nil_at (W : World) (ok : Nat → Prop) (b : Bool) (ad : Option Addr) (cap : Nat) (h : cap ≤ maxLen) : TS W ok b (.slice ad 0 cap) nil := ⟨ad, cap, rfl, Nat.zero_le _, h, fun h => by cases h⟩

theorem CT.length {W : World} {ok : Nat → Prop} (t : T) : ∀ (b : Bool) (xs : List Value), CT W ok b xs t → xs.length = t.len * wid b := by
  induction t with
  | nil => intro b xs h; cases b <;> (rw [show xs = [] from h]; rfl)
  | cons l e s r ihs ihr =>
    intro b xs h
    cases b with
    | true => obtain ⟨v, ys, rfl, h1, h2⟩ := h; have := ihr _ _ h2; simp only [List.length_cons, this, len, wid]; omega
    | false => obtain ⟨v, ys, rfl, h1, h2⟩ := h; have := ihr _ _ h2; simp only [List.length_cons, this, len, wid]; omega
theorem CT.oneCell {W : World} {ok : Nat → Prop} (t : T) : ∀ (b : Bool) (xs : List Value), CT W ok b xs t → ∀ u ∈ xs, u.oneCell' = true := by
  induction t with
  | nil => intro b xs h; cases b <;> (rw [show xs = [] from h]; simp)
  | cons l e s r ihs ihr =>
    intro b xs h
    cases b with
    | true =>
      obtain ⟨v, ys, rfl, ⟨ad, cap, rfl, _⟩, h2⟩ := h
      intro u hu
      simp only [List.mem_cons] at hu
      rcases hu with rfl | rfl | rfl | hu
      · rfl
      · rfl
      · rfl
      · exact ihr _ _ h2 u hu
    | false =>
      obtain ⟨v, ys, rfl, ⟨ad, cap, rfl, _⟩, h2⟩ := h
      intro u hu
      simp only [List.mem_cons] at hu
      rcases hu with rfl | rfl | hu
      · rfl
      · rfl
      · exact ihr _ _ h2 u hu
theorem CT.app {W : World} {ok : Nat → Prop} (t u : T) : ∀ (b : Bool) (xs ys : List Value), CT W ok b xs t → CT W ok b ys u → CT W ok b (xs ++ ys) (t.app u) := by
  induction t with
  | nil => intro b xs ys h hu; cases b <;> (rw [show xs = [] from h]; exact hu)
  | cons l e s r ihs ihr =>
    intro b xs ys h hu
    cases b with
    | true => obtain ⟨v, zs, rfl, h1, h2⟩ := h; exact ⟨v, zs ++ ys, rfl, h1, ihr _ _ _ h2 hu⟩
    | false => obtain ⟨v, zs, rfl, h1, h2⟩ := h; exact ⟨v, zs ++ ys, rfl, h1, ihr _ _ _ h2 hu⟩
theorem CT.parts {W : World} {ok : Nat → Prop} (t u : T) : ∀ (b : Bool) (zs : List Value), CT W ok b zs (t.app u) → ∃ xs ys, zs = xs ++ ys ∧ CT W ok b xs t ∧ CT W ok b ys u := by
  induction t with
  | nil => intro b zs h; exact ⟨[], zs, rfl, by cases b <;> rfl, h⟩
  | cons l e s r ihs ihr =>
    intro b zs h
    cases b with
    | true => obtain ⟨v, ys, rfl, h1, h2⟩ := h; obtain ⟨a, c, rfl, h3, h4⟩ := ihr _ _ h2; exact ⟨_, c, rfl, ⟨v, a, rfl, h1, h3⟩, h4⟩
    | false => obtain ⟨v, ys, rfl, h1, h2⟩ := h; obtain ⟨a, c, rfl, h3, h4⟩ := ihr _ _ h2; exact ⟨_, c, rfl, ⟨v, a, rfl, h1, h3⟩, h4⟩
theorem CT.item1 {W : World} {ok : Nat → Prop} {l e : Nat} {s : T} {v : Value} (h : TS W ok false v s) : CT W ok true [.int .i64 l, .int .i64 e, v] (one l e s) := ⟨v, [], rfl, h, rfl⟩
theorem CT.branch1 {W : World} {ok : Nat → Prop} {l e : Nat} {s : T} {v : Value} (h : TS W ok true v s) : CT W ok false [.int .i64 l, v] (one l e s) := ⟨v, [], rfl, h, rfl⟩

theorem TS.of_row {W : World} {ok : Nat → Prop} {base e : Nat} {b : Bool} {v : Value} {t : T} {xs : List Value} (h : W.ownsRow base e (wid b) v t.len xs) (hC : CT W ok b xs t) (hok : ∀ k, v.ownBlock = some k → ok k) : TS W ok b v t := by
  rcases id h.2 with ⟨h', h0⟩ | ⟨g, cap, cur, h', h1, h2, h3, h4, h5⟩
  · subst h'
    rw [len_zero h0]
    exact TS.nil_at _ _ _ _ _ (Nat.zero_le _)
  · subst h'
    refine ⟨_, cap, rfl, h3, h4, fun hn => ⟨g, 0, xs, rfl, hok g rfl, (Array.getElem?_eq_some_iff.1 h2).1, fun j u hj => ?_, hC⟩⟩
    have := h.cells (g := g) rfl j u hj
    rwa [add_none] at this

theorem TS.form {W : World} {ok : Nat → Prop} {b : Bool} {v : Value} {t : T} (h : TS W ok b v t) : ∃ ad cap, v = .slice ad t.len cap ∧ t.len ≤ cap ∧ cap ≤ maxLen ∧ (0 < t.len → ∃ g o, ad = some ⟨g, o, none⟩ ∧ ok g ∧ g < W.heap.size) := by
  obtain ⟨ad, cap, rfl, h1, h2, h3⟩ := h
  exact ⟨ad, cap, rfl, h1, h2, fun hn => let ⟨g, o, _, e, hg, hlt, _⟩ := h3 hn; ⟨g, o, e, hg, hlt⟩⟩
theorem len_mid (d : T) (l e : Nat) (s r : T) : 0 < (d.app (cons l e s r)).len := by rw [len_app, len]; omega
/-- The item at a place. -/
theorem TS.item {W : World} {ok : Nat → Prop} {g o n cap l e : Nat} {d s r : T} (h : TS W ok true (.slice (some ⟨g, o, none⟩) n cap) (d.app (cons l e s r))) :
    W.cell? ⟨g, o + d.len * 3, none⟩ = some (.int .i64 l) ∧ W.cell? ⟨g, o + d.len * 3 + 1, none⟩ = some (.int .i64 e) ∧ ∃ v, W.cell? ⟨g, o + d.len * 3 + 2, none⟩ = some v ∧ TS W ok false v s := by
  obtain ⟨ad, cap', e1, h1, h2, h3⟩ := h
  obtain ⟨g', o', zs, e2, hg, hlt, hc, hx⟩ := h3 (len_mid _ _ _ _ _)
  injection e1 with e1 _ _
  rw [e2] at e1
  injection e1 with e1
  injection e1 with e1 e3
  subst e1 e3
  obtain ⟨xs, ys, rfl, hx1, v, qs, rfl, hv, _⟩ := CT.parts _ _ _ _ hx
  have hl := CT.length _ _ _ hx1
  simp only [wid] at hl
  refine ⟨hc _ _ ?_, ?_, v, ?_, hv⟩
  · rw [List.getElem?_append_right (by omega), hl, Nat.sub_self]; rfl
  · rw [Nat.add_assoc]; refine hc _ _ ?_; rw [List.getElem?_append_right (by omega), hl, show d.len * 3 + 1 - d.len * 3 = 1 by omega]; rfl
  · rw [Nat.add_assoc]; refine hc _ _ ?_; rw [List.getElem?_append_right (by omega), hl, show d.len * 3 + 2 - d.len * 3 = 2 by omega]; rfl
theorem TS.branch {W : World} {ok : Nat → Prop} {g o n cap l e : Nat} {d s r : T} (h : TS W ok false (.slice (some ⟨g, o, none⟩) n cap) (d.app (cons l e s r))) :
    W.cell? ⟨g, o + d.len * 2, none⟩ = some (.int .i64 l) ∧ ∃ v, W.cell? ⟨g, o + d.len * 2 + 1, none⟩ = some v ∧ TS W ok true v s := by
  obtain ⟨ad, cap', e1, h1, h2, h3⟩ := h
  obtain ⟨g', o', zs, e2, hg, hlt, hc, hx⟩ := h3 (len_mid _ _ _ _ _)
  injection e1 with e1 _ _
  rw [e2] at e1
  injection e1 with e1
  injection e1 with e1 e3
  subst e1 e3
  obtain ⟨xs, ys, rfl, hx1, v, qs, rfl, hv, _⟩ := CT.parts _ _ _ _ hx
  have hl := CT.length _ _ _ hx1
  simp only [wid] at hl
  refine ⟨hc _ _ ?_, v, ?_, hv⟩
  · rw [List.getElem?_append_right (by omega), hl, Nat.sub_self]; rfl
  · rw [Nat.add_assoc]; refine hc _ _ ?_; rw [List.getElem?_append_right (by omega), hl, show d.len * 2 + 1 - d.len * 2 = 1 by omega]; rfl

/-- Items in memory that is there. -/
def Tr (W : World) (v : Value) (t : T) : Prop := TS W (· < W.heap.size) true v t
theorem Tr.below {W W' : World} {v : Value} {t : T} (h : Tr W v t) (hb : Below W.heap.size W W') : Tr W' v t := (TS.below h hb).wider hb.size

/-! ### Slices of ints -/
def nums (l : List Nat) : List Value := l.map fun x : Nat => Value.int .i64 (x : Int)
def intv (l : List Int) : List Value := l.map fun x : Int => Value.int .i64 x
theorem nums_append (a b : List Nat) : nums (a ++ b) = nums a ++ nums b := by simp [nums]
theorem nums_length (a : List Nat) : (nums a).length = a.length := by simp [nums]
theorem nums_one (a : List Nat) : ∀ u ∈ nums a, u.oneCell' = true := by
  intro u hu
  obtain ⟨x, _, rfl⟩ := List.mem_map.1 hu
  rfl
theorem nums_intv (a : List Nat) : nums a = intv (a.map fun x : Nat => (x : Int)) := by simp [nums, intv]
/-- A slice of ints. -/
def Ints (W : World) (v : Value) (l : List Int) : Prop :=
  ∃ ad cap, v = .slice ad l.length cap ∧ l.length ≤ cap ∧ cap ≤ maxLen ∧ (0 < l.length → ∃ g o, ad = some ⟨g, o, none⟩ ∧ g < W.heap.size ∧ ∀ i x, l[i]? = some x → W.cell? ⟨g, o + i, none⟩ = some (.int .i64 x))
theorem Ints.below {W W' : World} {v : Value} {l : List Int} (h : Ints W v l) (hb : Below W.heap.size W W') : Ints W' v l := by
  obtain ⟨ad, cap, rfl, h1, h2, h3⟩ := h
  refine ⟨ad, cap, rfl, h1, h2, fun hn => ?_⟩
  obtain ⟨g, o, e, hg, hc⟩ := h3 hn
  exact ⟨g, o, e, Nat.lt_of_lt_of_le hg hb.size, fun i x hx => (hb.cell (p := ⟨g, o + i, none⟩) hg).trans (hc i x hx)⟩
theorem Ints.of_row {W : World} {base e : Nat} {v : Value} {l : List Int} (h : W.ownsRow base e 1 v l.length (intv l)) : Ints W v l := by
  rcases id h.2 with ⟨h', h0⟩ | ⟨g, cap, cur, h', h1, h2, h3, h4, h5⟩
  · subst h'
    exact ⟨none, 0, by rw [h0], by omega, Nat.zero_le _, fun h => by omega⟩
  · subst h'
    refine ⟨_, cap, rfl, h3, h4, fun hn => ⟨g, 0, rfl, (Array.getElem?_eq_some_iff.1 h2).1, fun i x hx => ?_⟩⟩
    have := h.cells (g := g) rfl i (.int .i64 x) (by simp [intv, hx])
    rwa [add_none] at this
theorem Ints.of_nums {W : World} {base e : Nat} {v : Value} {l : List Nat} {n : Nat} (h : W.ownsRow base e 1 v n (nums l)) (hn : n = l.length) : Ints W v (l.map fun x : Nat => (x : Int)) := by
  subst hn
  rw [nums_intv] at h
  exact Ints.of_row (base := base) (e := e) (by rw [List.length_map]; exact h)

/-! ### Slices of lines: each its kind alone -/
def lnCells (ks : List Int) : List Value := ks.flatMap fun k => [.int .i64 k, .int .i64 0, .int .i64 0, .slice none 0 0]
theorem lnCells_append (a b : List Int) : lnCells (a ++ b) = lnCells a ++ lnCells b := by simp [lnCells]
theorem lnCells_length (a : List Int) : (lnCells a).length = a.length * 4 := by
  induction a with
  | nil => rfl
  | cons x r ih => simp only [lnCells, List.flatMap_cons, List.length_append, List.length_cons, List.length_nil] at ih ⊢; omega
theorem lnCells_get (a : List Int) : ∀ i x, a[i]? = some x → (lnCells a)[i * 4]? = some (.int .i64 x) := by
  induction a with
  | nil => intro i x h; simp at h
  | cons y r ih =>
    intro i x h
    cases i with
    | zero => simp at h; subst h; rfl
    | succ i =>
      simp at h
      rw [show lnCells (y :: r) = [.int .i64 y, .int .i64 0, .int .i64 0, .slice none 0 0] ++ lnCells r from rfl, List.getElem?_append_right (by simp; omega)]
      rw [← ih i x h]
      congr 1
      simp; omega
def Lns (W : World) (v : Value) (ks : List Int) : Prop :=
  ∃ ad cap, v = .slice ad ks.length cap ∧ ks.length ≤ cap ∧ cap ≤ maxLen ∧ (0 < ks.length → ∃ g o, ad = some ⟨g, o, none⟩ ∧ g < W.heap.size ∧ ∀ i x, ks[i]? = some x → W.cell? ⟨g, o + i * 4, none⟩ = some (.int .i64 x) ∧
    W.cell? ⟨g, o + i * 4 + 1, none⟩ = some (.int .i64 0) ∧ W.cell? ⟨g, o + i * 4 + 2, none⟩ = some (.int .i64 0) ∧ W.cell? ⟨g, o + i * 4 + 3, none⟩ = some (.slice none 0 0))
theorem Lns.below {W W' : World} {v : Value} {l : List Int} (h : Lns W v l) (hb : Below W.heap.size W W') : Lns W' v l := by
  obtain ⟨ad, cap, rfl, h1, h2, h3⟩ := h
  refine ⟨ad, cap, rfl, h1, h2, fun hn => ?_⟩
  obtain ⟨g, o, e, hg, hc⟩ := h3 hn
  refine ⟨g, o, e, Nat.lt_of_lt_of_le hg hb.size, fun i x hx => ?_⟩
  have k := fun o : Nat => hb.cell (p := ⟨g, o, none⟩) hg
  obtain ⟨a, b, c, d⟩ := hc i x hx
  exact ⟨(k _).trans a, (k _).trans b, (k _).trans c, (k _).trans d⟩
theorem lnCells_all (a : List Int) : ∀ i x, a[i]? = some x → ∀ j u, [Value.int .i64 x, .int .i64 0, .int .i64 0, .slice none 0 0][j]? = some u → (lnCells a)[i * 4 + j]? = some u := by
  induction a with
  | nil => intro i x h; simp at h
  | cons y r ih =>
    intro i x h j u hj
    have hj4 : j < 4 := (List.getElem?_eq_some_iff.1 hj).1
    rw [show lnCells (y :: r) = [.int .i64 y, .int .i64 0, .int .i64 0, .slice none 0 0] ++ lnCells r from rfl]
    cases i with
    | zero => simp at h; subst h; rw [List.getElem?_append_left (by simp; omega), Nat.zero_mul, Nat.zero_add]; exact hj
    | succ i =>
      simp at h
      rw [List.getElem?_append_right (by simp; omega)]
      rw [← ih i x h j u hj]
      congr 1
      simp; omega
theorem Lns.of_row {W : World} {base e : Nat} {v : Value} {l : List Int} (h : W.ownsRow base e 4 v l.length (lnCells l)) : Lns W v l := by
  rcases id h.2 with ⟨h', h0⟩ | ⟨g, cap, cur, h', h1, h2, h3, h4, h5⟩
  · subst h'
    exact ⟨none, 0, by rw [h0], by omega, Nat.zero_le _, fun h => by omega⟩
  · subst h'
    refine ⟨_, cap, rfl, h3, h4, fun hn => ⟨g, 0, rfl, (Array.getElem?_eq_some_iff.1 h2).1, fun i x hx => ?_⟩⟩
    have k := fun j u hj => h.cells (g := g) rfl (i * 4 + j) u (lnCells_all l i x hx j u hj)
    simp only [add_none, ← Nat.add_assoc] at k
    exact ⟨k 0 _ rfl, k 1 _ rfl, k 2 _ rfl, k 3 _ rfl⟩

theorem info_parts {t : TypeId} {z : Option Value} {s b : Nat} (h : (Try.prog.info? t).map (fun i => (i.zero, i.size, i.bytes)) = some (z, s, b)) : ∃ i, Try.prog.info? t = some i ∧ i.zero = z ∧ i.size = s ∧ i.bytes = b := by
  cases hi : Try.prog.info? t with
  | none => rw [hi] at h; cases h
  | some i =>
    rw [hi] at h
    simp only [Option.map_some, Option.some.injEq, Prod.mk.injEq] at h
    exact ⟨i, rfl, h.1, h.2.1, h.2.2⟩
theorem info3 : (Try.prog.info? 3).map (fun i => (i.zero, i.size, i.bytes)) = some (some (.int .i64 0), 1, 8) := by kernel_rfl
theorem infoB : (Try.prog.info? 4).map (fun i => (i.zero, i.size, i.bytes)) = some (some (.bool false), 1, 1) := by kernel_rfl
theorem infoLn : (Try.prog.info? 49).map (fun i => (i.zero, i.size, i.bytes)) = some (some (.agg #[.int .i64 0, .int .i64 0, .int .i64 0, .slice none 0 0]), 4, 48) := by kernel_rfl
theorem infoItem : (Try.prog.info? 39).map (fun i => (i.zero, i.size, i.bytes)) = some (some (.agg #[.int .i64 0, .int .i64 0, .slice none 0 0]), 3, 40) := by kernel_rfl
theorem infoBr : (Try.prog.info? 41).map (fun i => (i.zero, i.size, i.bytes)) = some (some (.agg #[.int .i64 0, .slice none 0 0]), 2, 32) := by kernel_rfl
theorem infoCond : (Try.prog.info? 55).map (fun i => (i.zero, i.size, i.bytes)) = some (some (.agg #[.int .i64 0, .int .i64 0, .slice none 0 0, .bool false]), 4, 48) := by kernel_rfl
end Go.Proofs.Ytjmbchemdcmegaa
