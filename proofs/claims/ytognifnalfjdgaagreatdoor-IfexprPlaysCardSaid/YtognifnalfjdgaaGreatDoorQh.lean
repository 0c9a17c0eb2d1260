/- Plain facts: what is read is a beginning; rows of links. (and what stands with it) -/
import Derived.Test.YtognifnalfjdgaaGreatDoorQf
import Derived.Test.YtognifnalfjdgaaGreatDoorQg
import Derived.Deep.AppendLies
import Derived.Test.YtognifnalfjdgaaGreatDoorQd
import Derived.OneCell
import Derived.StringKeys
import Derived.Maps.AppendAt
import Derived.Deep.QuietTactic
import Derived.BigQuiet
import Derived.Laws.OwnMore
import Derived.Tactics

/- Plain facts: what is read is a beginning; rows of links. -/
namespace Go.Proofs.YtognifnalfjdgaaGreatDoor
open Go.RowKit Go.Shelf
open Ie (E Rd)

/-- What is read takes one token at least, and leaves what stands behind. -/
def Ie.Dec (p : Rd) : Prop := ∀ l x r, p l = some (x, r) → ∃ k, 0 < k ∧ k ≤ l.length ∧ r = l.drop k
theorem Ie.Dec.nil {p : Rd} (h : Ie.Dec p) : p [] = none := by
  cases hp : p [] with
  | none => rfl
  | some q =>
    obtain ⟨k, h1, h2, _⟩ := h [] q.1 q.2 hp
    simp at h2
    omega
theorem Ie.more_dec {next : Rd} (h : Ie.Dec next) (lv : Nat) : ∀ (f : Nat) (x : E) (l : List K) (y : E) (r : List K), Ie.more next lv f x l = some (y, r) → ∃ k, k ≤ l.length ∧ r = l.drop k
  | 0, x, l, y, r, e => by
    simp only [Ie.more, Option.some.injEq, Prod.mk.injEq] at e
    exact ⟨0, Nat.zero_le _, e.2.symm⟩
  | f + 1, x, [], y, r, e => by
    simp only [Ie.more, Option.some.injEq, Prod.mk.injEq] at e
    exact ⟨0, Nat.zero_le _, e.2.symm⟩
  | f + 1, x, t :: l, y, r, e => by
    unfold Ie.more at e
    split at e
    · cases hn : next l with
      | none => rw [hn] at e; cases e
      | some q =>
        obtain ⟨z, l'⟩ := q
        rw [hn] at e
        obtain ⟨k, _, h2, rfl⟩ := h l z l' hn
        obtain ⟨m, h3, rfl⟩ := Ie.more_dec h lv f _ _ y r e
        rw [List.length_drop] at h3
        exact ⟨k + m + 1, by simp; omega, by rw [List.drop_drop, List.drop_succ_cons]⟩
    · simp only [Option.some.injEq, Prod.mk.injEq] at e
      exact ⟨0, Nat.zero_le _, e.2.symm⟩
theorem Ie.level_dec {next : Rd} (h : Ie.Dec next) (lv : Nat) : Ie.Dec (Ie.level next lv) := fun l y r e => by
  unfold Ie.level at e
  cases hn : next l with
  | none => rw [hn] at e; cases e
  | some q =>
    obtain ⟨x, l'⟩ := q
    rw [hn] at e
    obtain ⟨k, h1, h2, rfl⟩ := h l x l' hn
    obtain ⟨m, h3, rfl⟩ := Ie.more_dec h lv _ _ _ y r e
    rw [List.length_drop] at h3
    exact ⟨k + m, by omega, by omega, by rw [List.drop_drop]⟩
theorem Ie.levels_dec {op : Rd} (h : Ie.Dec op) : ∀ k, Ie.Dec (Ie.levels op k)
  | 0 => h
  | k + 1 => Ie.level_dec (Ie.levels_dec h k) _
theorem Ie.shut_some {s : ByteArray} {o : Option (E × List K)} {x : E} {r : List K} (h : Ie.shut s o = some (x, r)) : ∃ t, o = some (x, t :: r) ∧ Ie.isS t s = true := by
  unfold Ie.shut at h
  split at h
  · rename_i y t l
    split at h
    · rename_i hs
      simp only [Option.some.injEq, Prod.mk.injEq] at h
      obtain ⟨rfl, rfl⟩ := h
      exact ⟨t, rfl, hs⟩
    · cases h
  · cases h
theorem Ie.operS_dec {o e : Rd} (ho : Ie.Dec o) (he : Ie.Dec e) : Ie.Dec (Ie.operS o e) := fun l y r h => by
  cases l with
  | nil => cases h
  | cons t l =>
    have one : ∀ z : E, some (z, l) = some (y, r) → ∃ k, 0 < k ∧ k ≤ (t :: l).length ∧ r = (t :: l).drop k := fun z e => by
      simp only [Option.some.injEq, Prod.mk.injEq] at e
      exact ⟨1, by omega, by simp, e.2.symm⟩
    unfold Ie.operS at h
    dsimp only at h
    split at h
    · exact one _ h
    split at h
    · exact one _ h
    split at h
    · exact one _ h
    split at h
    · split at h
      · split at h
        · cases h
        · rename_i x l' hx
          simp only [Option.some.injEq, Prod.mk.injEq] at h
          obtain ⟨k, h1, h2, rfl⟩ := ho l x l' hx
          exact ⟨k + 1, by omega, by simp; omega, by rw [List.drop_succ_cons]; exact h.2.symm⟩
      · split at h
        · obtain ⟨u, hu, _⟩ := Ie.shut_some h
          obtain ⟨k, h1, h2, h3⟩ := he l y (u :: r) hu
          have hlen := congrArg List.length h3
          rw [List.length_drop, List.length_cons] at hlen
          refine ⟨k + 2, by omega, by simp; omega, ?_⟩
          rw [List.drop_succ_cons, show k + 1 = k + 1 from rfl, ← List.drop_drop, ← h3]
          rfl
        · cases h
    · cases h
theorem Ie.exprS_dec {o e : Rd} (ho : Ie.Dec o) (he : Ie.Dec e) : Ie.Dec (Ie.exprS o e) := fun l y r h => by
  unfold Ie.exprS at h
  cases hx : Ie.levels o 10 l with
  | none => rw [hx] at h; cases h
  | some q =>
    obtain ⟨x, l'⟩ := q
    rw [hx] at h
    obtain ⟨k, h1, h2, h3⟩ := Ie.levels_dec ho 10 l x l' hx
    dsimp only at h
    split at h
    · simp only [Option.some.injEq, Prod.mk.injEq] at h
      exact ⟨k, h1, h2, by rw [← h3]; exact h.2.symm⟩
    · rename_i u l2
      have hlen := congrArg List.length h3
      rw [List.length_drop, List.length_cons] at hlen
      split at h
      · split at h
        · cases h
        · rename_i z r2 hz
          split at h
          · cases h
          · rename_i z' r3 hz'
            simp only [Option.some.injEq, Prod.mk.injEq] at h
            obtain ⟨v, hv, _⟩ := Ie.shut_some hz
            obtain ⟨m, m1, m2, m3⟩ := he _ _ _ hv
            obtain ⟨n, n1, n2, n3⟩ := he _ _ _ hz'
            have hlen2 := congrArg List.length m3
            rw [List.length_drop, List.length_cons] at hlen2
            refine ⟨k + 1 + m + 1 + n, by omega, by omega, ?_⟩
            have e1 : l2 = l.drop (k + 1) := by rw [← List.drop_drop, ← h3]; rfl
            have e2 : r2 = l2.drop (m + 1) := by rw [← List.drop_drop, ← m3]; rfl
            rw [← h.2, n3, e2, e1, List.drop_drop, List.drop_drop]
            exact congrArg (List.drop · l) (by omega)
      · simp only [Option.some.injEq, Prod.mk.injEq] at h
        exact ⟨k, h1, h2, by rw [← h3]; exact h.2.symm⟩
theorem Ie.both_dec : ∀ d, Ie.Dec (Ie.oper d) ∧ Ie.Dec (Ie.expr d)
  | 0 => ⟨fun l x r h => (by cases (show (none : Option (E × List K)) = some (x, r) from h)), fun l x r h => (by cases (show (none : Option (E × List K)) = some (x, r) from h))⟩
  | d + 1 => ⟨Ie.operS_dec (Ie.both_dec d).1 (Ie.both_dec d).2, Ie.exprS_dec (Ie.operS_dec (Ie.both_dec d).1 (Ie.both_dec d).2) (Ie.both_dec d).2⟩

/-! Rows of links. -/
def lkCells : List (ByteArray × E × Value) → List Value
  | [] => []
  | (s, _, u) :: r => .string s :: u :: lkCells r
theorem lkCells_append (a b : List (ByteArray × E × Value)) : lkCells (a ++ b) = lkCells a ++ lkCells b := by
  induction a with
  | nil => rfl
  | cons x r ih => obtain ⟨s, y, u⟩ := x; simp [lkCells, ih]
theorem lkCells_get (a : List (ByteArray × E × Value)) : ∀ (i : Nat) s y u, a[i]? = some (s, y, u) → (lkCells a)[i * 2]? = some (.string s) ∧ (lkCells a)[i * 2 + 1]? = some u := by
  induction a with
  | nil => intro i s y u h; simp at h
  | cons x r ih =>
    intro i s y u h
    obtain ⟨s', y', u'⟩ := x
    cases i with
    | zero => simp at h; obtain ⟨rfl, rfl, rfl⟩ := h; exact ⟨rfl, rfl⟩
    | succ i =>
      simp at h
      have := ih i s y u h
      rw [show (i + 1) * 2 = i * 2 + 2 by omega]
      exact this
theorem infoLink : (Tryz.prog.info? 122).map (fun i => (i.zero, i.size, i.bytes)) = some (some (.agg #[.string ByteArray.empty, .nilIface]), 2, 32) := by kernel_rfl
/-- A row of links, each of which is asked alone. -/
structure LR (W : World) (N R : Nat) (mv : Value) (x : E) (vx : Value) (ys : List (ByteArray × E × Value)) : Prop where
  row : W.ownsRow N 122 2 mv ys.length (lkCells ys)
  first : Ex W (fun g => N ≤ g ∧ g < W.heap.size ∧ mv.ownBlock ≠ some g) x vx
  lv : ∀ (i : Nat) s y u, ys[i]? = some (s, y, u) → Ie.lvS s ≠ 0
  each : ∀ (i : Nat) s y u, ys[i]? = some (s, y, u) → Ex W (fun g => N ≤ g ∧ g < W.heap.size ∧ mv.ownBlock ≠ some g) y u
theorem row_heap9 {W W' : World} {base e sz n : Nat} {v : Value} {cs : List Value} (h : W.ownsRow base e sz v n cs) (hb : ∀ k, v.ownBlock = some k → W'.heap[k]? = W.heap[k]?) : W'.ownsRow base e sz v n cs := by
  refine ⟨h.1, ?_⟩
  rcases h.2 with h' | ⟨g, cap, cur, h', h1, h2, h3⟩
  · exact .inl h'
  · exact .inr ⟨g, cap, cur, h', h1, (hb g (by rw [h']; rfl)).trans h2, h3⟩
theorem LR.start {W : World} {N R : Nat} {x : E} {vx : Value} (h : Ex W (fun g => N ≤ g ∧ g < W.heap.size) x vx) : LR W N R (.slice none 0 0) x vx [] :=
  ⟨⟨by simp [lkCells], .inl ⟨rfl, rfl⟩⟩, h.keep fun b hb => ⟨⟨hb.1, hb.2, by simp [Value.ownBlock]⟩, rfl⟩, fun i s y u h => by simp at h, fun i s y u h => by simp at h⟩
theorem LR.keep {W W' : World} {N R : Nat} {mv : Value} {x : E} {vx : Value} {ys : List (ByteArray × E × Value)} (h : LR W N R mv x vx ys) (hR : R < N) (hF : Fb R W W') : LR W' N R mv x vx ys := by
  have key : ∀ b, (N ≤ b ∧ b < W.heap.size ∧ mv.ownBlock ≠ some b) → (N ≤ b ∧ b < W'.heap.size ∧ mv.ownBlock ≠ some b) ∧ W'.heap[b]? = W.heap[b]? := fun b hb => ⟨⟨hb.1, Nat.lt_of_lt_of_le hb.2.1 hF.size, hb.2.2⟩, hF.block b hb.2.1 (by omega)⟩
  exact ⟨row_heap9 h.row fun k hk => hF.block k (h.row.lt k hk).2 (by have := (h.row.lt k hk).1; omega), h.first.keep key, h.lv, fun i s y u hi => (h.each i s y u hi).keep key⟩
theorem LR.add {W w2 W' : World} {N R : Nat} {mv : Value} {x : E} {vx : Value} {ys : List (ByteArray × E × Value)} {s : ByteArray} {y : E} {u : Value} {g cap : Nat}
    (h : LR W N R mv x vx ys) (hs : Ie.lvS s ≠ 0) (hu : Ex W (fun g => N ≤ g ∧ g < W.heap.size ∧ mv.ownBlock ≠ some g) y u) (hB : Below W.heap.size W w2)
    (hrow : W'.ownsRow N 122 2 (.slice (some ⟨g, 0, none⟩) (ys.length + 1) cap) (ys.length + 1) (lkCells ys ++ [.string s, u])) (hg : w2.grownBy W' mv.ownBlock) (hgo : mv.ownBlock = some g ∨ W.heap.size ≤ g) :
    LR W' N R (.slice (some ⟨g, 0, none⟩) (ys.length + 1) cap) x vx (ys ++ [(s, y, u)]) := by
  have key : ∀ b, (N ≤ b ∧ b < W.heap.size ∧ mv.ownBlock ≠ some b) → (N ≤ b ∧ b < W'.heap.size ∧ (Value.slice (some ⟨g, 0, none⟩) (ys.length + 1) cap).ownBlock ≠ some b) ∧ W'.heap[b]? = W.heap[b]? := fun b hb => by
    have h1 := hB.size
    have h2 := hg.size
    refine ⟨⟨hb.1, by omega, ?_⟩, (hg.block b (by omega) (Ne.symm hb.2.2)).trans (hB.block b hb.2.1)⟩
    intro e
    simp only [Value.ownBlock, Option.some.injEq] at e
    subst e
    rcases hgo with h3 | h3
    · exact hb.2.2 h3
    · omega
  have last : ∀ (i : Nat) s' y' u', (ys ++ [(s, y, u)])[i]? = some (s', y', u') → ys[i]? = some (s', y', u') ∨ (s' = s ∧ y' = y ∧ u' = u) := fun i s' y' u' hi => by
    rw [List.getElem?_append] at hi
    split at hi
    · exact .inl hi
    · right
      cases hj : i - ys.length with
      | zero => rw [hj] at hi; simp at hi; exact ⟨hi.1.symm, hi.2.1.symm, hi.2.2.symm⟩
      | succ j => rw [hj] at hi; simp at hi
  refine ⟨?_, h.first.keep key, fun i s' y' u' hi => ?_, fun i s' y' u' hi => ?_⟩
  · rw [lkCells_append, List.length_append]; exact hrow
  · rcases last i s' y' u' hi with h1 | ⟨rfl, rfl, rfl⟩
    · exact h.lv i s' y' u' h1
    · exact hs
  · rcases last i s' y' u' hi with h1 | ⟨rfl, rfl, rfl⟩
    · exact (h.each i s' y' u' h1).keep key
    · exact hu.keep key
theorem LR.chain {W : World} {N R : Nat} {mv : Value} {x : E} {vx : Value} {ys : List (ByteArray × E × Value)} (h : LR W N R mv x vx ys) (hn : ys ≠ []) :
    Ex W (fun g => N ≤ g ∧ g < W.heap.size) (Ie.fold x ys) (.iface 124 (.agg #[vx, mv])) := by
  have hpos : 0 < ys.length := List.length_pos_iff.2 hn
  have hc := fun g => h.row.cells (g := g)
  rcases h.row.2 with ⟨_, h0⟩ | ⟨g, cap, cur, rfl, _, _, h1, h2, _, _⟩
  · omega
  · have key : ∀ b, (N ≤ b ∧ b < W.heap.size ∧ (Value.slice (some ⟨g, 0, none⟩) ys.length cap).ownBlock ≠ some b) → (N ≤ b ∧ b < W.heap.size) ∧ W.heap[b]? = W.heap[b]? := fun b hb => ⟨⟨hb.1, hb.2.1⟩, rfl⟩
    refine .chain x vx ys g cap (h.first.keep key) (h.row.lt g rfl) h1 h2 (fun i s y u hi => ?_) fun i s y u hi => (h.each i s y u hi).keep key
    have k := lkCells_get ys i s y u hi
    refine ⟨h.lv i s y u hi, ?_, ?_⟩
    · have := hc g rfl (i * 2) _ k.1
      rw [add_none] at this
      simpa using this
    · have := hc g rfl (i * 2 + 1) _ k.2
      rw [add_none] at this
      simpa using this
end Go.Proofs.YtognifnalfjdgaaGreatDoor

/- What is proved: joined reads operands of tighter signs with signs of its level between. -/
namespace Go.Proofs.YtognifnalfjdgaaGreatDoor
open Go.RowKit Go.Shelf
open Ie (E Rd)

/-- A value behind the interface. -/
def IsIf (v : Value) : Prop := ∃ t p, v = .iface t p
theorem IsIf.one {v : Value} (h : IsIf v) : v.oneCell' = true := by obtain ⟨t, p, rfl⟩ := h; rfl
theorem Ex.isIf {w : World} {ok : Nat → Prop} {T : E} {v : Value} (h : Ex w ok T v) : IsIf v := by cases h <;> exact ⟨_, _, rfl⟩
/-- How large tokens may be. -/
def Tb (l : List K) : Prop := l.length ≤ 1000000 ∧ ∀ t ∈ l, t.text.size ≤ 1000000
theorem Tb.drop {l : List K} (h : Tb l) (k : Nat) : Tb (l.drop k) := ⟨by rw [List.length_drop]; have := h.1; omega, fun t ht => h.2 t (List.mem_of_mem_drop ht)⟩
theorem Tb.tail {t : K} {r : List K} (h : Tb (t :: r)) : Tb r := h.drop 1
/-- What reading ends with. -/
def RdPost (R B : Nat) (spec : Option (E × List K)) (b : Bool) (e : Int) (w : World) (en : Ending) (w' : World) : Prop :=
  ∃ v l' b' e', en = .returned v ∧ Fb R w w' ∧ RS w' R B l' b' e' ∧ IsIf v ∧
    ((∃ T, spec = some (T, l') ∧ b' = b ∧ e' = (if T.isBad then 91 else e) ∧ Ex w' (fun g => w.heap.size ≤ g ∧ g < w'.heap.size) T v) ∨ (spec = none ∧ l' = [] ∧ b' = true))
/-- A function that reads so. -/
def Reads (f : FuncId) (args : List Value) (p : Rd) : Prop :=
  ∀ (R B : Nat) (l : List K) (b : Bool) (e : Int) (w : World), Gv w → 3 < R → B ≤ w.heap.size → RS w R B l b e → (b = true → l = []) → Tb l → Calls Tryz.prog f ⟨.pointer (some ⟨R, 0, none⟩) :: args⟩ w (RdPost R B (p l) b e w)
theorem Gv.fb {R : Nat} {w w' : World} (h : Gv w) (hR : 3 < R) (hF : Fb R w w') (hw : 3 < w.heap.size) : Gv w' := by
  have hB : Below 4 w w' := hF.below (by omega) (by omega)
  exact ⟨h.1.below hB (by omega), h.2.below hB (by omega)⟩
theorem Gv.pos {w : World} (h : Gv w) : 3 < w.heap.size := h.1.pos

theorem joined_base (d depth : Nat) (HO : Reads 89 [.int .i64 depth] (Ie.oper d)) : Reads 70 [.int .i64 11, .int .i64 depth] (Ie.oper d) := by
  intro R B l b e w hG hR hBw hRS hb hT
  have K1 := Lib.hid (HO R B l b e w hG hR hBw hRS hb hT)
  clear hG hRS hb hT HO
  go_enter Tryz.func70, Tryz.ntmps70
  go_wp2_with fail
  refine K1.out.mono ?_
  rintro en w2 ⟨v, l', b', e', rfl, h⟩
  have H := Lib.hid h
  clear h
  go_wp2_with fail
  go_ret
  exact ⟨v, l', b', e', rfl, H.out⟩

def leftLen (R : Nat) (w : World) : Nat := match w.cell? ⟨R, 0, none⟩ with | some (.slice _ n _) => n | _ => 0
theorem leftLen_of {w : World} {R B : Nat} {l : List K} {b : Bool} {e : Int} (h : RS w R B l b e) : leftLen R w = l.length := by
  obtain ⟨lv, h1, ad, cap, rfl, -⟩ := h
  unfold leftLen
  rw [(box3v h1).1]
theorem Ie.bad_one (x : Bool) (e : Int) (y : Bool) : (if y = true then (91 : Int) else if x = true then 91 else e) = if (x || y) = true then 91 else e := by cases x <;> cases y <;> rfl

theorem ownsRow_none {w : World} {base e sz : Nat} {v : Value} {cs : List Value} (h : w.ownsRow base e sz v 0 cs) : ∃ ad cap, v = .slice ad 0 cap := by
  rcases h.2 with ⟨h', _⟩ | ⟨g, cap, cur, h', _⟩
  · exact ⟨_, _, h'⟩
  · exact ⟨_, _, h'⟩
theorem ownsRow_some {w : World} {base e sz n m : Nat} {v : Value} {cs : List Value} (h : w.ownsRow base e sz v n cs) (hm : n = m) (hn : n ≠ 0) : ∃ g cap, v = .slice (some ⟨g, 0, none⟩) m cap := by
  rcases h.2 with ⟨_, h0⟩ | ⟨g, cap, cur, h', _⟩
  · exact absurd h0 hn
  · exact ⟨g, cap, by rw [h', hm]⟩
theorem Ie.more_yes {next : Rd} {lv f : Nat} {x y : E} {t : K} {r l' : List K} (h : Ie.lvOf t = lv) (hn : next r = some (y, l')) : Ie.more next lv (f + 1) x (t :: r) = Ie.more next lv f (.bin t.text x y) l' := by
  show (if Ie.lvOf t = lv then _ else _) = _
  rw [if_pos h, hn]
theorem Ie.more_none {next : Rd} {lv f : Nat} {x : E} {t : K} {r : List K} (h : Ie.lvOf t = lv) (hn : next r = none) : Ie.more next lv (f + 1) x (t :: r) = none := by
  show (if Ie.lvOf t = lv then _ else _) = _
  rw [if_pos h, hn]
/-- What holds while links are read. -/
def JInv (N R B L lv : Nat) (next : Rd) (spec : Option (E × List K)) (b : Bool) (e : Int) (x : E) (v : Value) (w wr : World) (mv : Value) : Prop :=
  ∃ l1 b1 e1, RS wr R B l1 b1 e1 ∧ Fb R w wr ∧ ((∃ ys f, LR wr N R mv x v ys ∧ ys.length + l1.length ≤ L ∧ b1 = b ∧ e1 = (if (Ie.fold x ys).isBad then 91 else e) ∧ Tb l1 ∧ (b = true → l1 = []) ∧ l1.length ≤ f ∧ spec = Ie.more next lv f (Ie.fold x ys) l1)
    ∨ (l1 = [] ∧ b1 = true ∧ spec = none ∧ ∃ n cs, wr.ownsRow N 122 2 mv n cs ∧ n ≠ 0))

set_option maxRecDepth 100000 in
set_option maxHeartbeats 8000000 in
theorem joined_step (lv depth : Nat) (next : Rd) (hlv : lv ≤ 10) (hl0 : 1 ≤ lv) (_ : depth ≤ 1000) (HD : Ie.Dec next) (HN : Reads 70 [.int .i64 ((lv : Int) + 1), .int .i64 depth] next) :
    Reads 70 [.int .i64 lv, .int .i64 depth] (Ie.level next lv) := by
  intro R B l b e w hG hR hBw hRS hb hT
  have K1 := Lib.hid (HN R B l b e w hG hR hBw hRS hb hT)
  have HG := Lib.hid hG
  have HT := Lib.hid hT
  have HHD := Lib.hid HD
  have HHN := Lib.hid HN
  have HHB := Lib.hid hb
  obtain ⟨lv0, hRw, -⟩ := hRS
  have hRw := rdr_lt hRw
  have l1 : (lv : Int) ≤ 10 := by omega
  have l2 : (1 : Int) ≤ lv := by omega
  obtain ⟨i0, hi, hz0, hz1, hz2⟩ := info_parts infoLink
  obtain ⟨S, hS⟩ : ∃ S, S = Ie.level next lv l := ⟨_, rfl⟩
  rw [← hS]
  have HS0 := Lib.hid hS
  clear hG hT HD HN hb hS
  go_enter Tryz.func70, Tryz.ntmps70
  go_wp2_with fail
  refine K1.out.mono ?_
  rintro en w2 ⟨v, l2, b2, e2, rfl, hF2, hRS2, hIf, hsp⟩
  obtain ⟨vt, vp, rfl⟩ := hIf
  rcases hsp with ⟨x, hx, rfl, rfl, hEx⟩ | ⟨hx, rfl, rfl⟩
  · have hspec : Ie.level next lv l = Ie.more next lv l2.length x l2 := by unfold Ie.level; rw [hx]
    obtain ⟨k, hk0, hk1, hk2⟩ := HHD.out l x l2 hx
    have hlen : l2.length ≤ l.length := by rw [hk2, List.length_drop]; omega
    have hT2 : Tb l2 := by rw [hk2]; exact HT.out.drop k
    have hb2 : b2 = true → l2 = [] := fun hbt => by
      have := HHB.out hbt
      rw [hk2, this]
      simp
    have hinv : JInv w.heap.size R B l.length lv next (Ie.level next lv l) b2 e x (.iface vt vp) w w2 (.slice none 0 0) :=
      ⟨l2, b2, _, hRS2, hF2, .inl ⟨[], l2.length, LR.start hEx, by simpa using hlen, rfl, rfl, hT2, hb2, Nat.le_refl _, hspec⟩⟩
    obtain ⟨L, hL⟩ : ∃ L, L = l.length := ⟨_, rfl⟩
    have hL1 : L ≤ 1000000 := by rw [hL]; exact HT.out.1
    rw [← HS0.out, ← hL] at hinv
    have HI := Lib.hid hinv
    clear hx hspec hk0 hk1 hk2 hlen hT2 hb2 hL hinv hF2 hRS2 hEx
    go_wp2_with fail
    go_loopw [8] (fun u wr => ∃ mv, mv = u ∧ JInv w.heap.size R B L lv next S b2 e x (.iface vt vp) w wr mv) (fun _ wr => leftLen R wr)
    case atStart => exact ⟨_, rfl, HI.out⟩
    case round =>
      obtain ⟨mv, hmv, l3, b3, e3, hRS, hF, hm⟩ := hrel
      subst hmv
      have hlenL := leftLen_of hRS
      have HL := Lib.hid hlenL
      clear hlenL
      cases l3 with
      | nil =>
        obtain ⟨lv3, hbx, ad, cap, rfl, -⟩ := id hRS
        obtain ⟨c0, -, -⟩ := box3v hbx
        simp only [List.length_nil] at c0
        have HRS := Lib.hid hRS
        have HF := Lib.hid hF
        clear hRS hbx hF
        rcases hm with ⟨ys, f, hLR, hc, rfl, rfl, -, -, -, hspec⟩ | ⟨-, rfl, rfl, n, cs, hrow, hn⟩
        · have hS2 : S = some (Ie.fold x ys, []) := by rw [hspec]; cases f <;> rfl
          have HS := Lib.hid hS2
          clear hspec hS2
          rcases Nat.eq_zero_or_pos ys.length with h0 | hpos
          · obtain rfl : ys = [] := List.length_eq_zero_iff.1 h0
            obtain ⟨mg, mc, rfl⟩ := ownsRow_none hLR.row
            have HLR := Lib.hid hLR
            clear hLR hc
            go_wp2_with fail
            go_ret
            exact ⟨_, [], _, _, rfl, HF.out, HRS.out, ⟨_, _, rfl⟩, .inl ⟨_, HS.out, rfl, rfl, HLR.out.first.keep fun g hg => ⟨⟨hg.1, hg.2.1⟩, rfl⟩⟩⟩
          · have hne : ys ≠ [] := List.length_pos_iff.1 hpos
            have HCH := Lib.hid (hLR.chain hne)
            obtain ⟨n, hn⟩ : ∃ n, n = ys.length := ⟨_, rfl⟩
            obtain ⟨mg, mc, rfl⟩ := ownsRow_some hLR.row hn.symm (by omega)
            have zn : ¬ (n : Int) = 0 := by omega
            clear hLR hc hne hn hpos
            go_wp2_with fail
            go_ret
            exact ⟨_, [], _, _, rfl, HF.out, HRS.out, ⟨_, _, rfl⟩, .inl ⟨_, HS.out, rfl, rfl, HCH.out⟩⟩
        · obtain ⟨mg, mc, rfl⟩ := ownsRow_some hrow rfl hn
          clear hrow
          have zn : ¬ (n : Int) = 0 := by omega
          go_wp2_with fail
          go_ret
          exact ⟨_, [], _, _, rfl, HF.out, HRS.out, ⟨_, _, rfl⟩, .inr ⟨rfl, rfl, rfl⟩⟩
      | cons t r =>
        rcases hm with ⟨ys, f, hLR, hc, rfl, rfl, hT3, hb3, hf, hspec⟩ | ⟨h, -⟩
        · obtain ⟨f, rfl⟩ : ∃ f', f = f' + 1 := ⟨f - 1, by simp at hf; omega⟩
          obtain ⟨lv3, hbx, hLv⟩ := id hRS
          obtain ⟨g, o, cap, rfl, hc1, hc2, -, ⟨d0, d1, d2, d3, d4, d5⟩, htl⟩ := hLv.cons
          unfold maxLen at hc2
          obtain ⟨n, hn⟩ : ∃ n, n = r.length := ⟨_, rfl⟩
          rw [← hn] at hbx hc1 htl
          obtain ⟨c0, -, -⟩ := box3v hbx
          have K2 := Lib.hid (level_any t wr)
          have HRS := Lib.hid hRS
          have HF := Lib.hid hF
          have HLR := Lib.hid hLR
          have HT3 := Lib.hid hT3
          have HB3 := Lib.hid hb3
          have HSP := Lib.hid hspec
          have Hn := Lib.hid hn
          have HTL := Lib.hid htl
          have HC := Lib.hid hc
          have HFf := Lib.hid hf
          have HBX := Lib.hid hbx
          obtain ⟨q, hq⟩ : ∃ q, q = Ie.lvOf t := ⟨_, rfl⟩
          rw [← hq] at K2
          have HQ := Lib.hid hq
          obtain ⟨kd, tx, tf, fr, en, bl⟩ := t
          dsimp only [kAgg] at d0 d1 d2 d3 d4 d5 K2
          clear hRS hLv hF hLR hT3 hb3 hspec hn htl hc hf hbx hq
          have z0 : (0 : Int) ≤ n := by omega
          have z1 : (0 : Int) < (n : Int) + 1 := by omega
          go_wp2_with fail
          refine K2.out.mono ?_
          rintro en4 w4 ⟨rfl, hB4⟩
          have hbx4 := below_heap hB4 HBX.out
          obtain ⟨c0', -, -⟩ := box3v hbx4
          have f0 : w4.frozen? ⟨R, 0, none⟩ = false := Lib.frozen_of_heap hbx4 0
          replace d1 := below_cof hB4 d1
          have HB4 := Lib.hid hB4
          have HBX4 := Lib.hid hbx4
          clear hB4 hbx4 c0 d0 d2 d3 d4 d5 K2
          by_cases hql : q = lv
          · have hql' : (q : Int) = lv := by omega
            rcases Decidable.em (cap = 1) with rfl | hcap
            · obtain rfl : n = 0 := by omega
              have HRS5 := Lib.hid (show RS (w4.setCell ⟨R, 0, none⟩ (.slice (some ⟨g, o, none⟩) 0 0)) R B r b3 (if (Ie.fold x ys).isBad then 91 else e) from ⟨_, rdr_set0 HBX4.out _, ((HTL.out 0 (by omega)).keep (.of HB4.out)).set 0 _⟩)
              have hF5 : Fb R wr (w4.setCell ⟨R, 0, none⟩ (.slice (some ⟨g, o, none⟩) 0 0)) := (Fb.of HB4.out).set 0 _
              go_wp2_with fail
              obtain ⟨W5, hW5⟩ : ∃ W5, W5 = w4.setCell ⟨R, 0, none⟩ (.slice (some ⟨g, o, none⟩) 0 0) := ⟨_, rfl⟩
              rw [← hW5] at hF5 HRS5
              rw [← hW5]
              clear hW5
              have hwr := HF.out.size
              have h5s := hF5.size
              have hLR5 := HLR.out.keep (by omega) hF5
              have hFw5 := HF.out.trans hF5
              refine (HHN.out R B r b3 _ W5 (HG.out.fb hR hFw5 HG.out.pos) hR (by omega) HRS5.out (fun hbt => by have := HB3.out hbt; cases this) HT3.out.tail).mono ?_
              rintro en6 w6 ⟨u, l6, b6, e6, rfl, hF6, hRS6, hIf6, hsp6⟩
              obtain ⟨ut, up, rfl⟩ := hIf6
              have h6s := hF6.size
              have hlt5 : ∀ k, mv.ownBlock = some k → k < W5.heap.size := fun k hk => (hLR5.row.lt k hk).2
              have hmeas : l6.length ≤ r.length := by
                rcases hsp6 with ⟨T, hT6, -⟩ | ⟨-, rfl, -⟩
                · obtain ⟨k, hk0, hk1, hk2⟩ := HHD.out r T l6 hT6
                  rw [hk2, List.length_drop]; omega
                · simp
              have hLR6 := hLR5.keep (by omega) hF6
              have HLT5 := Lib.hid hlt5
              have HMEAS := Lib.hid hmeas
              clear hlt5 hmeas
              have hFw6 := hFw5.trans hF6
              have HLR6 := Lib.hid hLR6
              have HFW := Lib.hid hFw6
              have HRS6 := Lib.hid hRS6
              have HSP6 := Lib.hid hsp6
              have hown := hLR6.row
              have hcn := HC.out
              simp only [List.length_cons] at hcn
              clear hF5 hLR5 hFw5 hF6 hRS6 hsp6 hLR6 hFw6 HRS5
              obtain ⟨m, hm⟩ : ∃ m, m = ys.length := ⟨_, rfl⟩
              obtain ⟨cs, hcs⟩ : ∃ cs, cs = lkCells ys := ⟨_, rfl⟩
              rw [← hm] at hcn
              rw [← hm, ← hcs] at hown
              have HM := Lib.hid hm
              have HCS := Lib.hid hcs
              clear hm hcs
              have HHown := Lib.hid hown
              clear hown
              go_wp2_with (at_builtin; refine wpList_append_lies _ rfl _ _ 119 rfl w.heap.size 122 i0 _ 2 32 Tryz.underlying119 hi hz0 hz1 hz2 rfl (by decide) mv m cs rfl (HHown.out.alloc _) ⟨w6.heap.size, 0, none⟩ 1 1 [.string tx, .iface ut up] rfl rfl (World.news_of_block (cs := #[.string tx, .iface ut up]) (t := 122) (fr := (0, 0)) (heap_alloc_new w6 _)) (by simp [Value.oneCell']) (by decide) (by unfold maxLen; omega) (by omega) (by simp; omega) _ rfl ?_; intro gg cap' w7 hown7 hgrow hat hlt7)
              have hA : Below w6.heap.size w6 (w6.alloc (.cells #[.string tx, .iface ut up] 122)) := Below.alloc (Below.refl _ _) (Nat.le_refl _) _
              have hblk : ∀ k, mv.ownBlock = some k → w.heap.size ≤ k ∧ k < w6.heap.size := fun k hk => by
                have := HHown.out.lt k hk
                exact ⟨this.1, this.2⟩
              have hRS7 := HRS6.out.grown hA hgrow fun k hk => by
                have := hblk k hk
                exact ⟨by omega, by omega⟩
              have hFw7 : Fb R w w7 := ⟨hgrow.os.trans (hA.os.trans HFW.out.os), hgrow.tape.trans (hA.tape.trans HFW.out.tape), hgrow.output.trans (hA.output.trans HFW.out.output), by have := hgrow.size; have := hA.size; omega, fun k hk hn => by
                rw [hgrow.block k (by have := hA.size; omega) (fun e => by have := hblk k e.symm; omega), hA.block k (by omega)]
                exact HFW.out.block k hk hn⟩
              go_roundw
              case rel =>
                refine ⟨_, rfl, l6, b6, e6, hRS7, hFw7, ?_⟩
                rcases HSP6.out with ⟨T, hT6, rfl, rfl, hEx6⟩ | ⟨hN6, rfl, rfl⟩
                · obtain ⟨k, hk0, hk1, hk2⟩ := HHD.out r T l6 hT6
                  have hlen6 : l6.length + k = r.length := by rw [hk2, List.length_drop]; omega
                  refine .inl ⟨ys ++ [(tx, T, .iface ut up)], f, ?_, ?_, rfl, ?_, ?_, ?_, ?_, ?_⟩
                  · have hx := HLR6.out.add (s := tx) (y := T) (u := .iface ut up) (w2 := w6.alloc (.cells #[.string tx, .iface ut up] 122)) (W' := w7) (g := gg) (cap := cap')
                      (by
                        have h1 : Ie.lvOf ⟨kd, tx, tf, fr, en, bl⟩ = lv := by rw [← HQ.out]; exact hql
                        unfold Ie.lvOf at h1
                        split at h1
                        · rw [show Ie.lvS tx = lv from h1]; omega
                        · omega)
                      (hEx6.keep fun x hx => ⟨⟨by omega, hx.2, fun e => by have := HLT5.out x e; have := hx.1; omega⟩, rfl⟩) hA
                      (by rw [← HM.out, ← HCS.out]; exact hown7) hgrow (by
                        rcases hat with h | h
                        · exact .inl h
                        · right; rw [h]; exact hA.size)
                    rw [← HM.out] at hx
                    exact hx
                  · rw [List.length_append, ← HM.out]
                    simp only [List.length_cons, List.length_nil]
                    omega
                  · rw [Ie.fold_snoc]
                    show _ = if ((Ie.fold x ys).isBad || T.isBad) = true then _ else _
                    rw [← Ie.bad_one]
                  · rw [hk2]; exact HT3.out.tail.drop k
                  · intro hbt; have := HB3.out hbt; cases this
                  · have := HFf.out; simp only [List.length_cons] at this; omega
                  · rw [HSP.out, Ie.fold_snoc]
                    exact Ie.more_yes (by rw [← HQ.out]; exact hql) hT6
                · refine .inr ⟨rfl, rfl, ?_, m + 1, _, hown7, by omega⟩
                  rw [HSP.out]
                  exact Ie.more_none (by rw [← HQ.out]; exact hql) hN6
              case measure =>
                rw [leftLen_of hRS7, HL.out]
                have := HMEAS.out
                simp only [List.length_cons]
                omega
            · have HRS5 := Lib.hid (show RS (w4.setCell ⟨R, 0, none⟩ (.slice (some ⟨g, o + 6, none⟩) n (cap - 1))) R B r b3 (if (Ie.fold x ys).isBad then 91 else e) from ⟨_, rdr_set0 HBX4.out _, ((HTL.out 6 (fun _ => rfl)).keep (.of HB4.out)).set 0 _⟩)
              have hF5 : Fb R wr (w4.setCell ⟨R, 0, none⟩ (.slice (some ⟨g, o + 6, none⟩) n (cap - 1))) := (Fb.of HB4.out).set 0 _
              go_wp2_with fail
              obtain ⟨W5, hW5⟩ : ∃ W5, W5 = w4.setCell ⟨R, 0, none⟩ (.slice (some ⟨g, o + 6, none⟩) n (cap - 1)) := ⟨_, rfl⟩
              rw [← hW5] at hF5 HRS5
              rw [← hW5]
              clear hW5
              have hwr := HF.out.size
              have h5s := hF5.size
              have hLR5 := HLR.out.keep (by omega) hF5
              have hFw5 := HF.out.trans hF5
              refine (HHN.out R B r b3 _ W5 (HG.out.fb hR hFw5 HG.out.pos) hR (by omega) HRS5.out (fun hbt => by have := HB3.out hbt; cases this) HT3.out.tail).mono ?_
              rintro en6 w6 ⟨u, l6, b6, e6, rfl, hF6, hRS6, hIf6, hsp6⟩
              obtain ⟨ut, up, rfl⟩ := hIf6
              have h6s := hF6.size
              have hlt5 : ∀ k, mv.ownBlock = some k → k < W5.heap.size := fun k hk => (hLR5.row.lt k hk).2
              have hmeas : l6.length ≤ r.length := by
                rcases hsp6 with ⟨T, hT6, -⟩ | ⟨-, rfl, -⟩
                · obtain ⟨k, hk0, hk1, hk2⟩ := HHD.out r T l6 hT6
                  rw [hk2, List.length_drop]; omega
                · simp
              have hLR6 := hLR5.keep (by omega) hF6
              have HLT5 := Lib.hid hlt5
              have HMEAS := Lib.hid hmeas
              clear hlt5 hmeas
              have hFw6 := hFw5.trans hF6
              have HLR6 := Lib.hid hLR6
              have HFW := Lib.hid hFw6
              have HRS6 := Lib.hid hRS6
              have HSP6 := Lib.hid hsp6
              have hown := hLR6.row
              have hcn := HC.out
              simp only [List.length_cons] at hcn
              clear hF5 hLR5 hFw5 hF6 hRS6 hsp6 hLR6 hFw6 HRS5
              obtain ⟨m, hm⟩ : ∃ m, m = ys.length := ⟨_, rfl⟩
              obtain ⟨cs, hcs⟩ : ∃ cs, cs = lkCells ys := ⟨_, rfl⟩
              rw [← hm] at hcn
              rw [← hm, ← hcs] at hown
              have HM := Lib.hid hm
              have HCS := Lib.hid hcs
              clear hm hcs
              have HHown := Lib.hid hown
              clear hown
              go_wp2_with (at_builtin; refine wpList_append_lies _ rfl _ _ 119 rfl w.heap.size 122 i0 _ 2 32 Tryz.underlying119 hi hz0 hz1 hz2 rfl (by decide) mv m cs rfl (HHown.out.alloc _) ⟨w6.heap.size, 0, none⟩ 1 1 [.string tx, .iface ut up] rfl rfl (World.news_of_block (cs := #[.string tx, .iface ut up]) (t := 122) (fr := (0, 0)) (heap_alloc_new w6 _)) (by simp [Value.oneCell']) (by decide) (by unfold maxLen; omega) (by omega) (by simp; omega) _ rfl ?_; intro gg cap' w7 hown7 hgrow hat hlt7)
              have hA : Below w6.heap.size w6 (w6.alloc (.cells #[.string tx, .iface ut up] 122)) := Below.alloc (Below.refl _ _) (Nat.le_refl _) _
              have hblk : ∀ k, mv.ownBlock = some k → w.heap.size ≤ k ∧ k < w6.heap.size := fun k hk => by
                have := HHown.out.lt k hk
                exact ⟨this.1, this.2⟩
              have hRS7 := HRS6.out.grown hA hgrow fun k hk => by
                have := hblk k hk
                exact ⟨by omega, by omega⟩
              have hFw7 : Fb R w w7 := ⟨hgrow.os.trans (hA.os.trans HFW.out.os), hgrow.tape.trans (hA.tape.trans HFW.out.tape), hgrow.output.trans (hA.output.trans HFW.out.output), by have := hgrow.size; have := hA.size; omega, fun k hk hn => by
                rw [hgrow.block k (by have := hA.size; omega) (fun e => by have := hblk k e.symm; omega), hA.block k (by omega)]
                exact HFW.out.block k hk hn⟩
              go_roundw
              case rel =>
                refine ⟨_, rfl, l6, b6, e6, hRS7, hFw7, ?_⟩
                rcases HSP6.out with ⟨T, hT6, rfl, rfl, hEx6⟩ | ⟨hN6, rfl, rfl⟩
                · obtain ⟨k, hk0, hk1, hk2⟩ := HHD.out r T l6 hT6
                  have hlen6 : l6.length + k = r.length := by rw [hk2, List.length_drop]; omega
                  refine .inl ⟨ys ++ [(tx, T, .iface ut up)], f, ?_, ?_, rfl, ?_, ?_, ?_, ?_, ?_⟩
                  · have hx := HLR6.out.add (s := tx) (y := T) (u := .iface ut up) (w2 := w6.alloc (.cells #[.string tx, .iface ut up] 122)) (W' := w7) (g := gg) (cap := cap')
                      (by
                        have h1 : Ie.lvOf ⟨kd, tx, tf, fr, en, bl⟩ = lv := by rw [← HQ.out]; exact hql
                        unfold Ie.lvOf at h1
                        split at h1
                        · rw [show Ie.lvS tx = lv from h1]; omega
                        · omega)
                      (hEx6.keep fun x hx => ⟨⟨by omega, hx.2, fun e => by have := HLT5.out x e; have := hx.1; omega⟩, rfl⟩) hA
                      (by rw [← HM.out, ← HCS.out]; exact hown7) hgrow (by
                        rcases hat with h | h
                        · exact .inl h
                        · right; rw [h]; exact hA.size)
                    rw [← HM.out] at hx
                    exact hx
                  · rw [List.length_append, ← HM.out]
                    simp only [List.length_cons, List.length_nil]
                    omega
                  · rw [Ie.fold_snoc]
                    show _ = if ((Ie.fold x ys).isBad || T.isBad) = true then _ else _
                    rw [← Ie.bad_one]
                  · rw [hk2]; exact HT3.out.tail.drop k
                  · intro hbt; have := HB3.out hbt; cases this
                  · have := HFf.out; simp only [List.length_cons] at this; omega
                  · rw [HSP.out, Ie.fold_snoc]
                    exact Ie.more_yes (by rw [← HQ.out]; exact hql) hT6
                · refine .inr ⟨rfl, rfl, ?_, m + 1, _, hown7, by omega⟩
                  rw [HSP.out]
                  exact Ie.more_none (by rw [← HQ.out]; exact hql) hN6
              case measure =>
                rw [leftLen_of hRS7, HL.out]
                have := HMEAS.out
                simp only [List.length_cons]
                omega
          · have hql' : ¬ (q : Int) = lv := by omega
            have hS2 : S = some (Ie.fold x ys, (⟨kd, tx, tf, fr, en, bl⟩ : K) :: r) := by
              rw [HSP.out]
              exact if_neg (by rw [← HQ.out]; exact hql)
            have HS := Lib.hid hS2
            have hLR4 := HLR.out.keep (by have := HF.out.size; omega) (.of HB4.out)
            have hF4 := HF.out.then HB4.out
            have hRS4 := HRS.out.keep HB4.out
            have HF4 := Lib.hid hF4
            have HRS4 := Lib.hid hRS4
            clear hS2 hF4 hRS4
            rcases Nat.eq_zero_or_pos ys.length with h0 | hpos
            · obtain rfl : ys = [] := List.length_eq_zero_iff.1 h0
              obtain ⟨mg, mc, rfl⟩ := ownsRow_none hLR4.row
              have HLR4 := Lib.hid hLR4
              clear hLR4
              go_wp2_with fail
              go_ret
              exact ⟨_, _, _, _, rfl, HF4.out, HRS4.out, ⟨_, _, rfl⟩, .inl ⟨_, HS.out, rfl, rfl, HLR4.out.first.keep fun g hg => ⟨⟨hg.1, hg.2.1⟩, rfl⟩⟩⟩
            · have hne : ys ≠ [] := List.length_pos_iff.1 hpos
              have HCH := Lib.hid (hLR4.chain hne)
              obtain ⟨m, hm⟩ : ∃ m, m = ys.length := ⟨_, rfl⟩
              obtain ⟨mg, mc, rfl⟩ := ownsRow_some hLR4.row hm.symm (by omega)
              have zm : ¬ (m : Int) = 0 := by omega
              clear hLR4 hne hm hpos
              go_wp2_with fail
              go_ret
              exact ⟨_, _, _, _, rfl, HF4.out, HRS4.out, ⟨_, _, rfl⟩, .inl ⟨_, HS.out, rfl, rfl, HCH.out⟩⟩
        · cases h
  · have hS2 : S = none := by rw [HS0.out]; unfold Ie.level; rw [hx]
    have HS := Lib.hid hS2
    have HI := Lib.hid (And.intro hRS2 hF2)
    clear hx hS2 hRS2 hF2
    go_wp2_with fail
    go_loopw [8] (fun u wr => u = .slice none 0 0 ∧ RS wr R B [] true e2 ∧ Fb R w wr) (fun _ _ => 0)
    case atStart => exact ⟨rfl, HI.out⟩
    case round =>
      obtain ⟨rfl, hRS, hF⟩ := hrel
      obtain ⟨lv3, hbx, ad, cap, rfl, -⟩ := id hRS
      obtain ⟨c0, -, -⟩ := box3v hbx
      simp only [List.length_nil] at c0
      have HRS := Lib.hid hRS
      have HF := Lib.hid hF
      clear hRS hbx hF
      go_wp2_with fail
      go_ret
      exact ⟨_, [], _, _, rfl, HF.out, HRS.out, ⟨_, _, rfl⟩, .inr ⟨HS.out, rfl, rfl⟩⟩
end Go.Proofs.YtognifnalfjdgaaGreatDoor

/- What is proved: names in a map; what is asked behind a 'defined'. -/
namespace Go.Proofs.YtognifnalfjdgaaGreatDoor
open Go.RowKit Go.Shelf Go.WideMaps

theorem keyStr : Go.Maps.Keyed Tryz.prog 9 := Go.Maps.string_keyed Tryz.underlying9
theorem zeroUnit (w : World) : (zeroValue 73).run Tryz.prog w = .ok (.agg #[]) w := by kernel_rfl
theorem str_inj {a b : ByteArray} (h : (Lit.string a.data.toList : Lit) = .string b.data.toList) : a = b := by
  injection h with h
  cases a; cases b
  simp only at h
  congr
  exact Array.ext' h
theorem keyLit (x : ByteArray) (_ : x.size ≤ maxLen) : WideAt.IsKeyLit (.string x.data.toList) := by
  trivial
/-- A slice of texts. -/
def Sts (W : World) (v : Value) (ps : List ByteArray) : Prop :=
  ∃ ad cap, v = .slice ad ps.length cap ∧ ps.length ≤ cap ∧ cap ≤ maxLen ∧ ∀ i s, ps[i]? = some s → ∃ g o, ad = some ⟨g, o, none⟩ ∧ W.cell? ⟨g, o + i, none⟩ = some (.string s)
theorem Sts.below {W W' : World} {v : Value} {ps : List ByteArray} (h : Sts W v ps) (hb : Below W.heap.size W W') : Sts W' v ps := by
  obtain ⟨ad, cap, rfl, h1, h2, h3⟩ := h
  refine ⟨ad, cap, rfl, h1, h2, fun i s hs => ?_⟩
  obtain ⟨g, o, e, c⟩ := h3 i s hs
  exact ⟨g, o, e, (hb.cell (p := ⟨g, o + i, none⟩) (lt_of_cell c)).trans c⟩
def Ie.has (ns : List ByteArray) (x : ByteArray) : Bool := ns.any fun y => decide (y = x)
/-- The names that are known. -/
def Nms (W : World) (mb : Nat) (ns : List ByteArray) : Prop :=
  ∃ n D, W.ownsMap (H := Unit) Tryz.prog 9 unitElem mb n D ∧ n ≤ ns.length ∧ ∀ x : ByteArray, x.size ≤ maxLen → Go.Maps.has D (.string x.data.toList) = Ie.has ns x
theorem nms_made (w : World) : Nms (w.alloc (.map #[] 0)) w.heap.size [] := ⟨0, _, World.ownsMap_made w _ _ _, by simp, fun x _ => rfl⟩
theorem Nms.keep {W W' : World} {mb : Nat} {ns : List ByteArray} (h : Nms W mb ns) (hb : Below W.heap.size W W') : Nms W' mb ns := by
  obtain ⟨n, D, h1, h2⟩ := h
  exact ⟨n, D, h1.kept (row := none) ⟨hb.os, hb.tape, hb.output, hb.size, fun k hk _ => hb.block k hk⟩ (by simp), h2⟩
theorem Nms.grown {W W' : World} {mb : Nat} {ns : List ByteArray} {row : Option Nat} (h : Nms W mb ns) (hg : W.grownBy W' row) (hr : row ≠ some mb) : Nms W' mb ns := by
  obtain ⟨n, D, h1, h2⟩ := h
  exact ⟨n, D, h1.kept hg (fun e => hr e.symm), h2⟩
theorem Nms.set {W : World} {mb : Nat} {ns : List ByteArray} (h : Nms W mb ns) {a : Addr} (ha : mb ≠ a.block) (u : Value) : Nms (W.setCell a u) mb ns := by
  obtain ⟨n, D, h1, h2⟩ := h
  exact ⟨n, D, h1.setCell ha u, h2⟩
theorem Nms.look {W : World} {mb : Nat} {ns : List ByteArray} (h : Nms W mb ns) (x : ByteArray) (hx : x.size ≤ maxLen) :
    (Instr.lookup 72 (.map (some mb)) (.string x) true).run Tryz.prog W = .ok (.tuple #[.agg #[], .bool (Ie.has ns x)]) W := by
  obtain ⟨n, D, h1, _, h3⟩ := h
  obtain ⟨v, q, hr, hv⟩ := h1.look_ok keyStr Tryz.underlying72 (zeroUnit W) (unitElem_mk (H := Unit)) (keyOf_string_mk Tryz.underlying9 hx)
  obtain ⟨rfl, _⟩ := unitElem_inv hv
  rw [hr, h3 x hx]
theorem Nms.put {W : World} {mb : Nat} {ns : List ByteArray} (h : Nms W mb ns) (x : ByteArray) (hx : x.size ≤ maxLen) (hl : ns.length < maxLen) :
    ∃ W', (Instr.mapUpdate 72 (.map (some mb)) (.string x) (.agg #[])).run Tryz.prog W = .ok () W' ∧ Nms W' mb (ns ++ [x]) ∧ W.grownBy W' (some mb) := by
  obtain ⟨n, D, h1, h2, h3⟩ := h
  obtain ⟨W', r1, r2, r3⟩ := h1.update keyStr Tryz.underlying72 (by omega) (keyOf_string_mk Tryz.underlying9 hx) (unitElem_mk (H := Unit))
  refine ⟨W', r1, ⟨n + 1, _, r2, by simp; omega, fun y hy => ?_⟩, r3⟩
  by_cases e : y = x
  · subst e
    rw [Go.Maps.has_put_same h1.isMap (keyLit y hx)]
    simp [Ie.has]
  · rw [Go.Maps.has_put_other (fun e' => e (str_inj e')), h3 y hy]
    have : ¬ x = y := fun e' => e e'.symm
    simp [Ie.has, this]

namespace Ie
def DEF : ByteArray := ⟨#[100, 101, 102, 105, 110, 101, 100]⟩
def B0 : ByteArray := ⟨#[48]⟩
def B1 : ByteArray := ⟨#[49]⟩
/-- The name that is asked, and how many tokens it takes. -/
def asked : List K → Option (ByteArray × Nat)
  | [] => none
  | a :: r =>
    if a.kind = 1 then some (a.text, 1)
    else match r with
      | b :: c :: _ => if isS a sLp = true ∧ b.kind = 1 ∧ isS c sRp = true then some (b.text, 3) else none
      | _ => none
def isDef (t : K) : Bool := decide (t.kind = 1) && decide (t.text = DEF)
def told (ns : List ByteArray) (t : K) (x : ByteArray) : K := ⟨2, if has ns x then B1 else B0, t.file, t.fr, t.en, t.bl⟩
def defd (ns : List ByteArray) : Nat → List K → Option (List K)
  | 0, _ => some []
  | _ + 1, [] => some []
  | f + 1, t :: r =>
    if isDef t then
      match asked r with
      | none => none
      | some (x, n) => (defd ns f (r.drop n)).map (told ns t x :: ·)
    else (defd ns f r).map (t :: ·)
theorem asked_some {l : List K} {x : ByteArray} {n : Nat} (h : asked l = some (x, n)) : (0 < n ∧ n ≤ l.length ∧ n ≤ 3) ∧ ∃ t ∈ l, t.text = x := by
  match l with
  | [] => cases h
  | a :: r =>
    by_cases hk : a.kind = 1
    · have e : asked (a :: r) = some (a.text, 1) := if_pos hk
      rw [e] at h
      simp only [Option.some.injEq, Prod.mk.injEq] at h
      obtain ⟨h1, rfl⟩ := h
      exact ⟨⟨by omega, by simp, by omega⟩, a, List.mem_cons_self, h1⟩
    · match r with
      | [] =>
        have e : asked [a] = none := if_neg hk
        rw [e] at h; cases h
      | [b] =>
        have e : asked [a, b] = none := if_neg hk
        rw [e] at h; cases h
      | b :: c :: r =>
        have e : asked (a :: b :: c :: r) = if isS a sLp = true ∧ b.kind = 1 ∧ isS c sRp = true then some (b.text, 3) else none := if_neg hk
        rw [e] at h
        by_cases hq : isS a sLp = true ∧ b.kind = 1 ∧ isS c sRp = true
        · rw [if_pos hq] at h
          simp only [Option.some.injEq, Prod.mk.injEq] at h
          obtain ⟨h1, rfl⟩ := h
          exact ⟨⟨by omega, by simp, by omega⟩, b, by simp, h1⟩
        · rw [if_neg hq] at h; cases h
theorem asked_len {l : List K} {x : ByteArray} {n : Nat} (h : asked l = some (x, n)) : 0 < n ∧ n ≤ l.length ∧ n ≤ 3 := (asked_some h).1
theorem asked_mem {l : List K} {x : ByteArray} {n : Nat} (h : asked l = some (x, n)) : ∃ t ∈ l, t.text = x := (asked_some h).2
end Ie

def askV : Option (ByteArray × Nat) → Value
  | none => .tuple #[.string ⟨#[]⟩, .int .i64 0]
  | some (x, n) => .tuple #[.string x, .int .i64 n]
set_option maxRecDepth 100000 in
set_option maxHeartbeats 4000000 in
theorem asked_any (v : Value) (l : List K) (w : World) (hv : Ks w v l) : Calls Tryz.prog 41 #[v] w fun e w' => e = .returned (askV (Ie.asked l)) ∧ Below w.heap.size w w' := by
  cases l with
  | nil =>
    obtain ⟨ad, cap, rfl, -⟩ := hv
    show Calls Tryz.prog 41 #[.slice ad 0 cap] w fun e w' => e = .returned (.tuple #[.string ⟨#[]⟩, .int .i64 0]) ∧ Below w.heap.size w w'
    go_enter Tryz.func41, Tryz.ntmps41
    go_wp2_with fail
    go_ret2
    exact ⟨rfl, Below.refl _ _⟩
  | cons a r =>
    obtain ⟨ad, cap, rfl, -⟩ := id hv
    obtain ⟨g, o, rfl, -, hc1, hc2, hg, hc⟩ := hv.cells (by simp)
    unfold maxLen at hc2
    obtain ⟨a0, a1, a2, a3, a4, a5⟩ := hc 0 a rfl
    simp only [Nat.zero_mul, Nat.add_zero] at a0 a1 a2 a3 a4 a5
    by_cases hk : a.kind = 1
    · have e1 : Ie.asked (a :: r) = some (a.text, 1) := if_pos hk
      rw [e1]
      obtain ⟨n, hn⟩ : ∃ n, n = r.length := ⟨_, rfl⟩
      simp only [List.length_cons] at hc1 ⊢
      rw [← hn] at hc1 ⊢
      obtain ⟨kd, tx, f, fr, en, bl⟩ := a
      dsimp only at a0 a1 a2 a3 a4 a5 hk ⊢
      have z1 : (0 : Int) < (n : Int) + 1 := by omega
      clear hv hc hn e1
      go_enter Tryz.func41, Tryz.ntmps41
      go_wp2_with fail
      go_ret2
      exact ⟨rfl, Below.refl _ _⟩
    · match r, hv, hc, hc1 with
      | [], _, _, hc1 =>
        have e1 : Ie.asked [a] = none := if_neg hk
        rw [e1]
        obtain ⟨kd, tx, f, fr, en, bl⟩ := a
        dsimp only at a0 a1 a2 a3 a4 a5 hk ⊢
        clear hc hv e1
        go_enter Tryz.func41, Tryz.ntmps41
        go_wp2_with fail
        go_ret2
        exact ⟨rfl, Below.refl _ _⟩
      | [b], _, _, hc1 =>
        have e1 : Ie.asked [a, b] = none := if_neg hk
        rw [e1]
        obtain ⟨kd, tx, f, fr, en, bl⟩ := a
        dsimp only at a0 a1 a2 a3 a4 a5 hk ⊢
        clear hc hv e1
        go_enter Tryz.func41, Tryz.ntmps41
        go_wp2_with fail
        go_ret2
        exact ⟨rfl, Below.refl _ _⟩
      | b :: c :: r, hv, hc, hc1 =>
        obtain ⟨b0, b1, b2, b3, b4, b5⟩ := hc 1 b rfl
        obtain ⟨c0, c1, c2, c3, c4, c5⟩ := hc 2 c rfl
        have e1 : Ie.asked (a :: b :: c :: r) = if Ie.isS a Ie.sLp = true ∧ b.kind = 1 ∧ Ie.isS c Ie.sRp = true then some (b.text, 3) else none := if_neg hk
        rw [e1]
        have K1 := Lib.hid (fun W => isign_any a Ie.sLp W)
        have K2 := Lib.hid (fun W => isign_any c Ie.sRp W)
        obtain ⟨p, hp⟩ : ∃ p, p = Ie.isS a Ie.sLp := ⟨_, rfl⟩
        obtain ⟨q, hq⟩ : ∃ q, q = Ie.isS c Ie.sRp := ⟨_, rfl⟩
        rw [← hp] at K1 ⊢
        rw [← hq] at K2 ⊢
        obtain ⟨n, hn⟩ : ∃ n, n = r.length := ⟨_, rfl⟩
        simp only [List.length_cons] at hc1 ⊢
        rw [← hn] at hc1 ⊢
        obtain ⟨kd, tx, f, fr, en, bl⟩ := a
        obtain ⟨bkd, btx, bf, bfr, ben, bbl⟩ := b
        obtain ⟨ckd, ctx, cf, cfr, cen, cbl⟩ := c
        dsimp only [kAgg] at a0 a1 a2 a3 a4 a5 b0 b1 c0 c1 c2 c3 c4 c5 hk K1 K2 ⊢
        simp only [Nat.one_mul] at b0 b1 b2 b3 b4 b5
        have z1 : (0 : Int) < (n : Int) + 1 + 1 + 1 := by omega
        have z2 : (2 : Int) < (n : Int) + 1 + 1 + 1 := by omega
        obtain ⟨z, hz⟩ : ∃ z, z = (if p = true ∧ bkd = 1 ∧ q = true then some (btx, 3) else none) := ⟨_, rfl⟩
        rw [← hz]
        have z0 : p = false → z = none := fun h => by rw [hz, if_neg (fun h' => by rw [h] at h'; exact absurd h'.1 (by decide))]
        have z3 : q = false → z = none := fun h => by rw [hz, if_neg (fun h' => by rw [h] at h'; exact absurd h'.2.2 (by decide))]
        have z4 : ¬ bkd = 1 → z = none := fun h => by rw [hz, if_neg (fun h' => h h'.2.1)]
        have z5 : p = true → bkd = 1 → q = true → z = some (btx, 3) := fun h1 h2 h3 => by rw [hz, if_pos ⟨h1, h2, h3⟩]
        clear hv hc hn e1 hp hq b2 b3 b4 b5 hz
        have Z0 := Lib.hid z0
        have Z3 := Lib.hid z3
        have Z4 := Lib.hid z4
        have Z5 := Lib.hid z5
        clear z0 z3 z4 z5
        cases p with
        | false =>
          rw [Z0.out rfl]
          go_enter Tryz.func41, Tryz.ntmps41
          go_wp2_with fail
          refine (K1.out _).mono ?_
          rintro e w2 ⟨rfl, hB2⟩
          go_wp2_with fail
          go_ret2
          exact ⟨rfl, hB2⟩
        | true =>
          by_cases hb : bkd = 1
          · have HBK := Lib.hid hb
            go_enter Tryz.func41, Tryz.ntmps41
            go_wp2_with fail
            refine (K1.out _).mono ?_
            rintro e w2 ⟨rfl, hB2⟩
            replace b0 := below_cof hB2 b0
            replace b1 := below_cof hB2 b1
            replace c0 := below_cof hB2 c0
            replace c1 := below_cof hB2 c1
            replace c2 := below_cof hB2 c2
            replace c3 := below_cof hB2 c3
            replace c4 := below_cof hB2 c4
            replace c5 := below_cof hB2 c5
            have HB2 := Lib.hid hB2
            clear hB2 a0 a1 a2 a3 a4 a5
            go_wp2_with fail
            refine (K2.out _).mono ?_
            rintro e w3 ⟨rfl, hB3⟩
            replace b1 := below_cof hB3 b1
            have HB3 := Lib.hid hB3
            clear hB3 c0 c1 c2 c3 c4 c5 b0
            cases q with
            | false =>
              go_wp2_with fail
              go_ret2
              refine ⟨?_, Below.then HB2.out HB3.out⟩
              rw [Z3.out (by simp)]
              rfl
            | true =>
              go_wp2_with fail
              go_ret2
              refine ⟨?_, Below.then HB2.out HB3.out⟩
              rw [Z5.out (by simp) (by first | exact HBK.out | simp) (by simp)]
              rfl
          · rw [Z4.out hb]
            go_enter Tryz.func41, Tryz.ntmps41
            go_wp2_with fail
            refine (K1.out _).mono ?_
            rintro e w2 ⟨rfl, hB2⟩
            replace b0 := below_cof hB2 b0
            go_wp2_with fail
            go_ret2
            exact ⟨rfl, hB2⟩
end Go.Proofs.YtognifnalfjdgaaGreatDoor

/- What is proved: what stands behind a sign, operands, expressions are read as the document says, so deep. -/
namespace Go.Proofs.YtognifnalfjdgaaGreatDoor
open Go.RowKit Go.Shelf
open Ie (E Rd)

def Ie.behindP (s : ByteArray) (o e : Rd) : Rd := fun l =>
  if isUn s then
    match o l with
    | none => none
    | some (x, l') => some (.un s x, l')
  else if s = sLp then shut sRp (e l)
  else none
theorem Ie.shut_yes {s : ByteArray} {x : E} {l : List K} (h : Ie.bg s l = true) : Ie.shut s (some (x, l)) = some (x, l.tail) := by
  cases l with
  | nil => cases h
  | cons t r => exact if_pos h
theorem Ie.shut_no {s : ByteArray} {x : E} {l : List K} (h : Ie.bg s l = false) : Ie.shut s (some (x, l)) = none := by
  cases l with
  | nil => rfl
  | cons t r => exact if_neg (by rw [show Ie.isS t s = false from h]; decide)

set_option maxRecDepth 100000 in
set_option maxHeartbeats 2000000 in
theorem behind_any (s : ByteArray) (depth : Int) (o e : Rd) (HO : Reads 89 [.int .i64 depth] o) (HE : Reads 45 [.int .i64 depth] e) :
    Reads 101 [.string s, .int .i64 depth] (Ie.behindP s o e) := by
  intro R B l b er w hG hR hBw hRS hb hT
  have hRw : R < w.heap.size := by obtain ⟨_, h1, _⟩ := hRS; exact rdr_lt h1
  by_cases hu : Ie.isUn s = true
  · have K1 := Lib.hid (HO R B l b er w hG hR hBw hRS hb hT)
    have hsp : Ie.behindP s o e l = match o l with | none => none | some (x, l') => some (.un s x, l') := if_pos hu
    have HSP := Lib.hid hsp
    clear HO HE hG hRS hb hT hsp
    have fin : ∀ w2 v l' b' e', Fb R w w2 → RS w2 R B l' b' e' → IsIf v → ((∃ T, o l = some (T, l') ∧ b' = b ∧ e' = (if T.isBad then 91 else er) ∧ Ex w2 (fun g => w.heap.size ≤ g ∧ g < w2.heap.size) T v) ∨ (o l = none ∧ l' = [] ∧ b' = true)) →
        RdPost R B (Ie.behindP s o e l) b er w (.returned (.iface 139 (.agg #[.string s, v]))) w2 := fun w2 v l' b' e' hF hR' hv h => by
      refine ⟨_, l', b', e', rfl, hF, hR', ⟨_, _, rfl⟩, ?_⟩
      rcases h with ⟨T, hT, rfl, rfl, hE⟩ | ⟨hN, rfl, rfl⟩
      · exact .inl ⟨.un s T, by rw [HSP.out, hT], rfl, rfl, .un s T v hE⟩
      · exact .inr ⟨by rw [HSP.out, hN], rfl, rfl⟩
    have FIN := Lib.hid fin
    clear fin
    have hu4 : s = Ie.sAdd ∨ s = Ie.sSub ∨ s = Ie.sNot ∨ s = Ie.sTil := by
      unfold Ie.isUn at hu
      simp only [Bool.or_eq_true, decide_eq_true_iff] at hu
      rcases hu with ((h | h) | h) | h
      · exact .inl h
      · exact .inr (.inl h)
      · exact .inr (.inr (.inl h))
      · exact .inr (.inr (.inr h))
    clear hu
    rcases hu4 with hs | hs | hs | hs
    · have e0 : (s.toList == [43]) = true := lit_yes hs
      have e1 : (s.toList == [45]) = false := lit_no (by rw [hs]; decide)
      have e2 : (s.toList == [33]) = false := lit_no (by rw [hs]; decide)
      have e3 : (s.toList == [126]) = false := lit_no (by rw [hs]; decide)
      clear hs
      go_enter Tryz.func101, Tryz.ntmps101
      go_wp2_with fail
      refine K1.out.mono ?_
      rintro en w2 ⟨v, l2, b2, e2, rfl, hF2, hRS2, hIf2, hsp2⟩
      have HX := Lib.hid (FIN.out w2 v l2 b2 e2 hF2 hRS2 hIf2 hsp2)
      clear hF2 hRS2 hsp2
      obtain ⟨vt, vp, rfl⟩ := hIf2
      go_wp2_with fail
      go_ret
      exact HX.out
    · have e0 : (s.toList == [43]) = false := lit_no (by rw [hs]; decide)
      have e1 : (s.toList == [45]) = true := lit_yes hs
      have e2 : (s.toList == [33]) = false := lit_no (by rw [hs]; decide)
      have e3 : (s.toList == [126]) = false := lit_no (by rw [hs]; decide)
      clear hs
      go_enter Tryz.func101, Tryz.ntmps101
      go_wp2_with fail
      refine K1.out.mono ?_
      rintro en w2 ⟨v, l2, b2, e2, rfl, hF2, hRS2, hIf2, hsp2⟩
      have HX := Lib.hid (FIN.out w2 v l2 b2 e2 hF2 hRS2 hIf2 hsp2)
      clear hF2 hRS2 hsp2
      obtain ⟨vt, vp, rfl⟩ := hIf2
      go_wp2_with fail
      go_ret
      exact HX.out
    · have e0 : (s.toList == [43]) = false := lit_no (by rw [hs]; decide)
      have e1 : (s.toList == [45]) = false := lit_no (by rw [hs]; decide)
      have e2 : (s.toList == [33]) = true := lit_yes hs
      have e3 : (s.toList == [126]) = false := lit_no (by rw [hs]; decide)
      clear hs
      go_enter Tryz.func101, Tryz.ntmps101
      go_wp2_with fail
      refine K1.out.mono ?_
      rintro en w2 ⟨v, l2, b2, e2, rfl, hF2, hRS2, hIf2, hsp2⟩
      have HX := Lib.hid (FIN.out w2 v l2 b2 e2 hF2 hRS2 hIf2 hsp2)
      clear hF2 hRS2 hsp2
      obtain ⟨vt, vp, rfl⟩ := hIf2
      go_wp2_with fail
      go_ret
      exact HX.out
    · have e0 : (s.toList == [43]) = false := lit_no (by rw [hs]; decide)
      have e1 : (s.toList == [45]) = false := lit_no (by rw [hs]; decide)
      have e2 : (s.toList == [33]) = false := lit_no (by rw [hs]; decide)
      have e3 : (s.toList == [126]) = true := lit_yes hs
      clear hs
      go_enter Tryz.func101, Tryz.ntmps101
      go_wp2_with fail
      refine K1.out.mono ?_
      rintro en w2 ⟨v, l2, b2, e2, rfl, hF2, hRS2, hIf2, hsp2⟩
      have HX := Lib.hid (FIN.out w2 v l2 b2 e2 hF2 hRS2 hIf2 hsp2)
      clear hF2 hRS2 hsp2
      obtain ⟨vt, vp, rfl⟩ := hIf2
      go_wp2_with fail
      go_ret
      exact HX.out
  · have hsp : Ie.behindP s o e l = if s = Ie.sLp then Ie.shut Ie.sRp (e l) else none := if_neg hu
    have h0 : ¬ s = Ie.sAdd := fun h => hu (by rw [h]; decide)
    have h1 : ¬ s = Ie.sSub := fun h => hu (by rw [h]; decide)
    have h2 : ¬ s = Ie.sNot := fun h => hu (by rw [h]; decide)
    have h3 : ¬ s = Ie.sTil := fun h => hu (by rw [h]; decide)
    have e0 : (s.toList == [43]) = false := lit_no h0
    have e1 : (s.toList == [45]) = false := lit_no h1
    have e2 : (s.toList == [33]) = false := lit_no h2
    have e3 : (s.toList == [126]) = false := lit_no h3
    clear hu h0 h1 h2 h3
    by_cases h4 : s = Ie.sLp
    · have e4 : (s.toList == [40]) = true := lit_yes h4
      rw [if_pos h4] at hsp
      have HSP := Lib.hid hsp
      have K1 := Lib.hid (HE R B l b er w hG hR hBw hRS hb hT)
      clear hsp h4 HO HE hG hRS hb hT
      go_enter Tryz.func101, Tryz.ntmps101
      go_wp2_with fail
      refine K1.out.mono ?_
      rintro en w2 ⟨v, l2, b2, e2, rfl, hF2, hRS2, hIf2, hsp2⟩
      have K2 := Lib.hid (must_any R B Ie.sRp l2 b2 e2 w2 hRS2)
      have HF2 := Lib.hid hF2
      have HIF := Lib.hid hIf2
      have HS2 := Lib.hid hsp2
      clear hF2 hRS2 hIf2 hsp2
      go_wp2_with fail
      refine K2.out.mono ?_
      rintro en w3 ⟨rfl, hF3, hRS3⟩
      have H3 := Lib.hid (And.intro hF3 hRS3)
      clear hF3 hRS3
      go_wp2_with fail
      go_ret
      refine ⟨_, _, _, _, rfl, HF2.out.trans H3.out.1, H3.out.2, HIF.out, ?_⟩
      rcases HS2.out with ⟨T, hT, rfl, rfl, hE⟩ | ⟨hN, rfl, rfl⟩
      · cases hq : Ie.bg Ie.sRp l2 with
        | true => exact .inl ⟨T, by rw [HSP.out, hT]; exact Ie.shut_yes hq, rfl, rfl, hE.keep fun g hg => ⟨⟨hg.1, Nat.lt_of_lt_of_le hg.2 H3.out.1.size⟩, H3.out.1.block g hg.2 (by omega)⟩⟩
        | false => exact .inr ⟨by rw [HSP.out, hT]; exact Ie.shut_no hq, rfl, rfl⟩
      · exact .inr ⟨by rw [HSP.out, hN]; rfl, rfl, rfl⟩
    · have e4 : (s.toList == [40]) = false := lit_no h4
      rw [if_neg h4] at hsp
      have HSP := Lib.hid hsp
      have K1 := Lib.hid (breaks_any R B l b er w hRS)
      clear hsp h4 HO HE hG hRS hb hT
      go_enter Tryz.func101, Tryz.ntmps101
      go_wp2_with fail
      refine K1.out.mono ?_
      rintro en w2 ⟨rfl, hF2, hRS2⟩
      have H3 := Lib.hid (And.intro hF2 hRS2)
      clear hF2 hRS2
      go_wp2_with fail
      go_ret
      exact ⟨_, _, _, _, rfl, H3.out.1, H3.out.2, ⟨_, _, rfl⟩, .inr ⟨HSP.out, rfl, rfl⟩⟩
end Go.Proofs.YtognifnalfjdgaaGreatDoor

/- What is proved: operands and expressions are read as the document says, so deep. -/
namespace Go.Proofs.YtognifnalfjdgaaGreatDoor
open Go.RowKit Go.Shelf
open Ie (E Rd)

def Ie.nv : Option Nat → Int
  | none => 0
  | some n => n
def Ie.ne : Option Nat → Int
  | none => 91
  | some _ => 0
/-- A function that tells a number. -/
def NumC (f : FuncId) (spec : List UInt8 → Option Nat) : Prop := ∀ (s : ByteArray) (w : World), Gv w → s.size ≤ 1000000 →
  Calls Tryz.prog f #[.string s] w fun e w' => e = .returned (.tuple #[.int .i64 (Ie.nv (spec s.data.toList)), .int .i64 (Ie.ne (spec s.data.toList))]) ∧ Below w.heap.size w w'
theorem Ie.ofNum_bad (q : Option Nat) (e : Int) : (if Ie.ne q = 0 then e else Ie.ne q) = (if (Ie.ofNum q).isBad = true then 91 else e) := by cases q <;> rfl
theorem Ex.ofNum (w : World) (ok : Nat → Prop) (q : Option Nat) : Ex w ok (Ie.ofNum q) (.iface 133 (.int .i64 (Ie.nv q))) := by
  cases q with
  | none => exact .bad
  | some n => exact .num n

set_option maxRecDepth 100000 in
set_option maxHeartbeats 4000000 in
theorem operand_deep (depth : Nat) (h1 : 60 < depth) (h2 : depth ≤ 1000) : Reads 89 [.int .i64 depth] (fun _ => none) := by
  intro R B l b e w hG hR hBw hRS hb hT
  obtain ⟨lv, hbx, ad, cap, rfl, hc1, hc2, -⟩ := id hRS
  obtain ⟨c0, -, -⟩ := box3v hbx
  have K1 := Lib.hid (breaks_any R B l b e w hRS)
  obtain ⟨n, hn⟩ : ∃ n, n = l.length := ⟨_, rfl⟩
  rw [← hn] at c0
  have d1 : (60 : Int) < depth := by omega
  have fin : ∀ w2, Fb R w w2 → RS w2 R B [] true e → RdPost R B none b e w (.returned atom0) w2 := fun w2 hF hR' => ⟨_, _, _, _, rfl, hF, hR', ⟨_, _, rfl⟩, .inr ⟨rfl, rfl, rfl⟩⟩
  have FIN := Lib.hid fin
  clear hG hRS hb hT hbx hn fin hc1 hc2
  rcases Nat.eq_zero_or_pos n with hz | hz
  · subst hz
    go_enter Tryz.func89, Tryz.ntmps89
    go_wp2_with fail
    refine K1.out.mono ?_
    rintro en w2 ⟨rfl, hF2, hRS2⟩
    have H := Lib.hid (FIN.out w2 hF2 hRS2)
    clear hF2 hRS2
    go_wp2_with fail
    go_ret
    exact H.out
  · have zn : ¬ (n : Int) = 0 := by omega
    go_enter Tryz.func89, Tryz.ntmps89
    go_wp2_with fail
    refine K1.out.mono ?_
    rintro en w2 ⟨rfl, hF2, hRS2⟩
    have H := Lib.hid (FIN.out w2 hF2 hRS2)
    clear hF2 hRS2
    go_wp2_with fail
    go_ret
    exact H.out

set_option maxRecDepth 100000 in
set_option maxHeartbeats 8000000 in
theorem operand_any (depth : Nat) (h1 : depth ≤ 60) (o e : Rd) (HN : NumC 13 Ie.number) (HQ : NumC 15 Ie.quote) (HBH : ∀ s, Reads 101 [.string s, .int .i64 ((depth : Int) + 1)] (Ie.behindP s o e)) :
    Reads 89 [.int .i64 depth] (Ie.operS o e) := by
  intro R B l b er w hG hR hBw hRS hb hT
  have d1 : (depth : Int) ≤ 60 := by omega
  have d2 : (0 : Int) ≤ depth := by omega
  cases l with
  | nil =>
    obtain ⟨lv, hbx, ad, cap, rfl, hc1, hc2, -⟩ := id hRS
    obtain ⟨c0, -, -⟩ := box3v hbx
    simp only [List.length_nil] at c0
    have K1 := Lib.hid (breaks_any R B [] b er w hRS)
    clear hG hRS hb hT hbx hc1 hc2
    go_enter Tryz.func89, Tryz.ntmps89
    go_wp2_with fail
    refine K1.out.mono ?_
    rintro en w2 ⟨rfl, hF2, hRS2⟩
    have H := Lib.hid (And.intro hF2 hRS2)
    clear hF2 hRS2
    go_wp2_with fail
    go_ret
    exact ⟨_, _, _, _, rfl, H.out.1, H.out.2, ⟨_, _, rfl⟩, .inr ⟨rfl, rfl, rfl⟩⟩
  | cons t r =>
    have hbf : b = false := by
      cases b with
      | true => have := hb rfl; cases this
      | false => rfl
    subst hbf
    obtain ⟨lv, hbx, hLv⟩ := id hRS
    obtain ⟨g, og, cap, rfl, hc1, hc2, ⟨hg, hgB⟩, hK, htl⟩ := hLv.cons
    unfold maxLen at hc2
    obtain ⟨n, hn⟩ : ∃ n, n = r.length := ⟨_, rfl⟩
    rw [← hn] at hbx hc1 htl
    obtain ⟨c0, -, -⟩ := box3v hbx
    have f0 : w.frozen? ⟨R, 0, none⟩ = false := Lib.frozen_of_heap hbx 0
    have hRw := rdr_lt hbx
    have ht1 : t.text.size ≤ 1000000 := hT.2 t (by simp)
    have HT := Lib.hid hT.tail
    have HG := Lib.hid hG
    have HRB := Lib.hid hBw
    obtain ⟨kd, tx, tf, fr, en, bl⟩ := t
    dsimp only at ht1
    have fin : ∀ (W2 : World) (lv2 : Value), W2 = (w.setCell ⟨R, 0, none⟩ lv2).alloc (.cells #[.int .i64 kd, .string tx, .int .i64 tf, .int .i64 fr, .int .i64 en, .bool bl] 54) → Lv w R B lv2 r →
        RS W2 R B r false er ∧ Fb R w W2 ∧ W2.cell? ⟨w.heap.size, 0, none⟩ = some (.int .i64 kd) ∧ W2.cell? ⟨w.heap.size, 1, none⟩ = some (.string tx) ∧ W2.heap.size = w.heap.size + 1 := fun W2 lv2 e h => by
      have hs1 : (w.setCell ⟨R, 0, none⟩ lv2).heap.size = w.heap.size := by simp [World.setCell]
      have hF1 : Fb R w (w.setCell ⟨R, 0, none⟩ lv2) := (Fb.refl R w).set 0 _
      have hB1 : Below (w.setCell ⟨R, 0, none⟩ lv2).heap.size (w.setCell ⟨R, 0, none⟩ lv2) W2 := by rw [e]; exact Below.alloc (Below.refl _ _) (Nat.le_refl _) _
      have hb2 : W2.heap[w.heap.size]? = some (.cells #[.int .i64 kd, .string tx, .int .i64 tf, .int .i64 fr, .int .i64 en, .bool bl] 54 (0, 0)) := by
        rw [e, ← hs1]; exact heap_alloc_new _ _
      refine ⟨⟨lv2, below_heap hB1 (rdr_set0 hbx _), h.keep (hF1.then hB1)⟩, hF1.then hB1, ?_, ?_, by rw [e]; simp [World.setCell]⟩
      · rw [Lib.cell_of_heap hb2 0]; rfl
      · rw [Lib.cell_of_heap hb2 1]; rfl
    have FIN := Lib.hid fin
    have HTL := Lib.hid htl
    have HHN := Lib.hid HN
    have HHQ := Lib.hid HQ
    have HHB := Lib.hid HBH
    have Hn := Lib.hid hn
    obtain ⟨k0, k1, k2, k3, k4, k5⟩ := hK
    dsimp only at k0 k1 k2 k3 k4 k5
    have z0 : (0 : Int) ≤ n := by omega
    have z1 : (0 : Int) < (n : Int) + 1 := by omega
    have z2 : ((n : Int) + 1 == 0) = false := by rw [beq_eq_false_iff_ne]; omega
    clear hG hRS hLv hbx hb hT htl hn fin HN HQ HBH hBw
    -- what is left once the first is taken
    rcases Decidable.em (cap = 1) with rfl | hcap
    · obtain rfl : n = 0 := by omega
      go_enter Tryz.func89, Tryz.ntmps89
      go_upto_region 5 with (fail)
      obtain ⟨W2, hW2⟩ : ∃ W2, W2 = (w.setCell ⟨R, 0, none⟩ (.slice (some ⟨g, og, none⟩) 0 0)).alloc (.cells #[.int .i64 kd, .string tx, .int .i64 tf, .int .i64 fr, .int .i64 en, .bool bl] 54) := ⟨_, rfl⟩
      rw [← hW2]
      obtain ⟨hRS2, hF2, q0, q1, hs2⟩ := FIN.out W2 _ hW2 (HTL.out 0 (by omega))
      have HRS2 := Lib.hid hRS2
      have HF2 := Lib.hid hF2
      clear hRS2 hF2 hW2
      by_cases h2 : kd = 2
      · have hsp : Ie.operS o e (⟨kd, tx, tf, fr, en, bl⟩ :: r) = some (Ie.ofNum (Ie.number tx.data.toList), r) := if_pos h2
        have HSP := Lib.hid hsp
        have K1 := Lib.hid (HHN.out tx W2 (HG.out.fb hR HF2.out HG.out.pos) ht1)
        obtain ⟨nq, hnq⟩ : ∃ nq, nq = Ie.number tx.data.toList := ⟨_, rfl⟩
        rw [← hnq] at K1 HSP
        obtain ⟨nv, hnv⟩ : ∃ nv, nv = Ie.nv nq := ⟨_, rfl⟩
        obtain ⟨ne, hne⟩ : ∃ ne, ne = Ie.ne nq := ⟨_, rfl⟩
        rw [← hnv, ← hne] at K1
        have HNV := Lib.hid hnv
        have HNE := Lib.hid hne
        clear hsp hnq hnv hne
        go_wp2_with fail
        refine K1.out.mono ?_
        rintro en3 w3 ⟨rfl, hB3⟩
        have K2 := Lib.hid (atom_any R B r false er nv ne w3 (HRS2.out.keep hB3))
        have HF3 := Lib.hid (HF2.out.then hB3)
        clear hB3
        go_wp2_with fail
        refine K2.out.mono ?_
        rintro en4 w4 ⟨rfl, hF4, hRS4⟩
        have H4 := Lib.hid (And.intro hF4 hRS4)
        clear hF4 hRS4
        go_wp2_with fail
        go_ret
        refine ⟨_, r, false, _, rfl, HF3.out.trans H4.out.1, H4.out.2, ⟨_, _, rfl⟩, .inl ⟨Ie.ofNum nq, HSP.out, rfl, ?_, ?_⟩⟩
        · rw [HNE.out]; exact Ie.ofNum_bad nq er
        · rw [HNV.out]; exact Ex.ofNum _ _ nq
      by_cases h3 : kd = 3
      · have hsp : Ie.operS o e (⟨kd, tx, tf, fr, en, bl⟩ :: r) = some (Ie.ofNum (Ie.quote tx.data.toList), r) := (if_neg h2).trans (if_pos h3)
        have HSP := Lib.hid hsp
        have K1 := Lib.hid (HHQ.out tx W2 (HG.out.fb hR HF2.out HG.out.pos) ht1)
        obtain ⟨nq, hnq⟩ : ∃ nq, nq = Ie.quote tx.data.toList := ⟨_, rfl⟩
        rw [← hnq] at K1 HSP
        obtain ⟨nv, hnv⟩ : ∃ nv, nv = Ie.nv nq := ⟨_, rfl⟩
        obtain ⟨ne, hne⟩ : ∃ ne, ne = Ie.ne nq := ⟨_, rfl⟩
        rw [← hnv, ← hne] at K1
        have HNV := Lib.hid hnv
        have HNE := Lib.hid hne
        clear hsp hnq hnv hne
        go_wp2_with fail
        refine K1.out.mono ?_
        rintro en3 w3 ⟨rfl, hB3⟩
        have K2 := Lib.hid (atom_any R B r false er nv ne w3 (HRS2.out.keep hB3))
        have HF3 := Lib.hid (HF2.out.then hB3)
        clear hB3
        go_wp2_with fail
        refine K2.out.mono ?_
        rintro en4 w4 ⟨rfl, hF4, hRS4⟩
        have H4 := Lib.hid (And.intro hF4 hRS4)
        clear hF4 hRS4
        go_wp2_with fail
        go_ret
        refine ⟨_, r, false, _, rfl, HF3.out.trans H4.out.1, H4.out.2, ⟨_, _, rfl⟩, .inl ⟨Ie.ofNum nq, HSP.out, rfl, ?_, ?_⟩⟩
        · rw [HNE.out]; exact Ie.ofNum_bad nq er
        · rw [HNV.out]; exact Ex.ofNum _ _ nq
      by_cases h4 : kd = 1
      · have hsp : Ie.operS o e (⟨kd, tx, tf, fr, en, bl⟩ :: r) = some (.num 0, r) := (if_neg h2).trans ((if_neg h3).trans (if_pos h4))
        have HSP := Lib.hid hsp
        clear hsp
        go_wp2_with fail
        go_ret
        refine ⟨_, r, false, er, rfl, HF2.out, HRS2.out, ⟨_, _, rfl⟩, .inl ⟨_, ?_, rfl, rfl, .num 0⟩⟩
        exact HSP.out
      by_cases h5 : kd = 5
      · have hsp : Ie.operS o e (⟨kd, tx, tf, fr, en, bl⟩ :: r) = Ie.behindP tx o e r := (if_neg h2).trans ((if_neg h3).trans ((if_neg h4).trans (if_pos h5)))
        have HSP := Lib.hid hsp
        have K1 := Lib.hid (HHB.out tx R B r false er W2 (HG.out.fb hR HF2.out HG.out.pos) hR (by have := HF2.out.size; have := HRB.out; omega) HRS2.out (fun h => by cases h) HT.out)
        clear hsp
        go_wp2_with fail
        refine K1.out.mono ?_
        rintro en3 w3 ⟨v, l3, b3, e3, rfl, hF3, hRS3, hIf3, hsp3⟩
        have H3 := Lib.hid (And.intro hF3 (And.intro hRS3 (And.intro hIf3 hsp3)))
        clear hF3 hRS3 hIf3 hsp3
        go_wp2_with fail
        go_ret
        refine ⟨_, l3, b3, e3, rfl, HF2.out.trans H3.out.1, H3.out.2.1, H3.out.2.2.1, ?_⟩
        rcases H3.out.2.2.2 with ⟨T, hT, hb, he, hE⟩ | ⟨hN, hl, hb⟩
        · exact .inl ⟨T, HSP.out.trans hT, hb, he, hE.keep fun x hx => ⟨⟨by have := hx.1; omega, hx.2⟩, rfl⟩⟩
        · exact .inr ⟨HSP.out.trans hN, hl, hb⟩
      · have hsp : Ie.operS o e (⟨kd, tx, tf, fr, en, bl⟩ :: r) = none := (if_neg h2).trans ((if_neg h3).trans ((if_neg h4).trans (if_neg h5)))
        have HSP := Lib.hid hsp
        have K1 := Lib.hid (breaks_any R B r false er W2 HRS2.out)
        clear hsp
        go_wp2_with fail
        refine K1.out.mono ?_
        rintro en3 w3 ⟨rfl, hF3, hRS3⟩
        have H3 := Lib.hid (And.intro hF3 hRS3)
        clear hF3 hRS3
        go_wp2_with fail
        go_ret
        exact ⟨_, _, _, _, rfl, HF2.out.trans H3.out.1, H3.out.2, ⟨_, _, rfl⟩, .inr ⟨HSP.out, rfl, rfl⟩⟩
    · go_enter Tryz.func89, Tryz.ntmps89
      go_upto_region 5 with (fail)
      obtain ⟨W2, hW2⟩ : ∃ W2, W2 = (w.setCell ⟨R, 0, none⟩ (.slice (some ⟨g, og + 6, none⟩) n (cap - 1))).alloc (.cells #[.int .i64 kd, .string tx, .int .i64 tf, .int .i64 fr, .int .i64 en, .bool bl] 54) := ⟨_, rfl⟩
      rw [← hW2]
      obtain ⟨hRS2, hF2, q0, q1, hs2⟩ := FIN.out W2 _ hW2 (HTL.out 6 (fun _ => rfl))
      have HRS2 := Lib.hid hRS2
      have HF2 := Lib.hid hF2
      clear hRS2 hF2 hW2
      by_cases h2 : kd = 2
      · have hsp : Ie.operS o e (⟨kd, tx, tf, fr, en, bl⟩ :: r) = some (Ie.ofNum (Ie.number tx.data.toList), r) := if_pos h2
        have HSP := Lib.hid hsp
        have K1 := Lib.hid (HHN.out tx W2 (HG.out.fb hR HF2.out HG.out.pos) ht1)
        obtain ⟨nq, hnq⟩ : ∃ nq, nq = Ie.number tx.data.toList := ⟨_, rfl⟩
        rw [← hnq] at K1 HSP
        obtain ⟨nv, hnv⟩ : ∃ nv, nv = Ie.nv nq := ⟨_, rfl⟩
        obtain ⟨ne, hne⟩ : ∃ ne, ne = Ie.ne nq := ⟨_, rfl⟩
        rw [← hnv, ← hne] at K1
        have HNV := Lib.hid hnv
        have HNE := Lib.hid hne
        clear hsp hnq hnv hne
        go_wp2_with fail
        refine K1.out.mono ?_
        rintro en3 w3 ⟨rfl, hB3⟩
        have K2 := Lib.hid (atom_any R B r false er nv ne w3 (HRS2.out.keep hB3))
        have HF3 := Lib.hid (HF2.out.then hB3)
        clear hB3
        go_wp2_with fail
        refine K2.out.mono ?_
        rintro en4 w4 ⟨rfl, hF4, hRS4⟩
        have H4 := Lib.hid (And.intro hF4 hRS4)
        clear hF4 hRS4
        go_wp2_with fail
        go_ret
        refine ⟨_, r, false, _, rfl, HF3.out.trans H4.out.1, H4.out.2, ⟨_, _, rfl⟩, .inl ⟨Ie.ofNum nq, HSP.out, rfl, ?_, ?_⟩⟩
        · rw [HNE.out]; exact Ie.ofNum_bad nq er
        · rw [HNV.out]; exact Ex.ofNum _ _ nq
      by_cases h3 : kd = 3
      · have hsp : Ie.operS o e (⟨kd, tx, tf, fr, en, bl⟩ :: r) = some (Ie.ofNum (Ie.quote tx.data.toList), r) := (if_neg h2).trans (if_pos h3)
        have HSP := Lib.hid hsp
        have K1 := Lib.hid (HHQ.out tx W2 (HG.out.fb hR HF2.out HG.out.pos) ht1)
        obtain ⟨nq, hnq⟩ : ∃ nq, nq = Ie.quote tx.data.toList := ⟨_, rfl⟩
        rw [← hnq] at K1 HSP
        obtain ⟨nv, hnv⟩ : ∃ nv, nv = Ie.nv nq := ⟨_, rfl⟩
        obtain ⟨ne, hne⟩ : ∃ ne, ne = Ie.ne nq := ⟨_, rfl⟩
        rw [← hnv, ← hne] at K1
        have HNV := Lib.hid hnv
        have HNE := Lib.hid hne
        clear hsp hnq hnv hne
        go_wp2_with fail
        refine K1.out.mono ?_
        rintro en3 w3 ⟨rfl, hB3⟩
        have K2 := Lib.hid (atom_any R B r false er nv ne w3 (HRS2.out.keep hB3))
        have HF3 := Lib.hid (HF2.out.then hB3)
        clear hB3
        go_wp2_with fail
        refine K2.out.mono ?_
        rintro en4 w4 ⟨rfl, hF4, hRS4⟩
        have H4 := Lib.hid (And.intro hF4 hRS4)
        clear hF4 hRS4
        go_wp2_with fail
        go_ret
        refine ⟨_, r, false, _, rfl, HF3.out.trans H4.out.1, H4.out.2, ⟨_, _, rfl⟩, .inl ⟨Ie.ofNum nq, HSP.out, rfl, ?_, ?_⟩⟩
        · rw [HNE.out]; exact Ie.ofNum_bad nq er
        · rw [HNV.out]; exact Ex.ofNum _ _ nq
      by_cases h4 : kd = 1
      · have hsp : Ie.operS o e (⟨kd, tx, tf, fr, en, bl⟩ :: r) = some (.num 0, r) := (if_neg h2).trans ((if_neg h3).trans (if_pos h4))
        have HSP := Lib.hid hsp
        clear hsp
        go_wp2_with fail
        go_ret
        refine ⟨_, r, false, er, rfl, HF2.out, HRS2.out, ⟨_, _, rfl⟩, .inl ⟨_, ?_, rfl, rfl, .num 0⟩⟩
        exact HSP.out
      by_cases h5 : kd = 5
      · have hsp : Ie.operS o e (⟨kd, tx, tf, fr, en, bl⟩ :: r) = Ie.behindP tx o e r := (if_neg h2).trans ((if_neg h3).trans ((if_neg h4).trans (if_pos h5)))
        have HSP := Lib.hid hsp
        have K1 := Lib.hid (HHB.out tx R B r false er W2 (HG.out.fb hR HF2.out HG.out.pos) hR (by have := HF2.out.size; have := HRB.out; omega) HRS2.out (fun h => by cases h) HT.out)
        clear hsp
        go_wp2_with fail
        refine K1.out.mono ?_
        rintro en3 w3 ⟨v, l3, b3, e3, rfl, hF3, hRS3, hIf3, hsp3⟩
        have H3 := Lib.hid (And.intro hF3 (And.intro hRS3 (And.intro hIf3 hsp3)))
        clear hF3 hRS3 hIf3 hsp3
        go_wp2_with fail
        go_ret
        refine ⟨_, l3, b3, e3, rfl, HF2.out.trans H3.out.1, H3.out.2.1, H3.out.2.2.1, ?_⟩
        rcases H3.out.2.2.2 with ⟨T, hT, hb, he, hE⟩ | ⟨hN, hl, hb⟩
        · exact .inl ⟨T, HSP.out.trans hT, hb, he, hE.keep fun x hx => ⟨⟨by have := hx.1; omega, hx.2⟩, rfl⟩⟩
        · exact .inr ⟨HSP.out.trans hN, hl, hb⟩
      · have hsp : Ie.operS o e (⟨kd, tx, tf, fr, en, bl⟩ :: r) = none := (if_neg h2).trans ((if_neg h3).trans ((if_neg h4).trans (if_neg h5)))
        have HSP := Lib.hid hsp
        have K1 := Lib.hid (breaks_any R B r false er W2 HRS2.out)
        clear hsp
        go_wp2_with fail
        refine K1.out.mono ?_
        rintro en3 w3 ⟨rfl, hF3, hRS3⟩
        have H3 := Lib.hid (And.intro hF3 hRS3)
        clear hF3 hRS3
        go_wp2_with fail
        go_ret
        exact ⟨_, _, _, _, rfl, HF2.out.trans H3.out.1, H3.out.2, ⟨_, _, rfl⟩, .inr ⟨HSP.out, rfl, rfl⟩⟩

end Go.Proofs.YtognifnalfjdgaaGreatDoor

/- What is proved: any expression in memory can be asked, and comes to what it comes to. -/
namespace Go.Proofs.YtognifnalfjdgaaGreatDoor
open Go.RowKit Go.Shelf
open Ie (E)

def Ie.Z (p : Int × Int) : Prop := p.2 ≠ 0 → p.1 = 0
theorem Ie.Z_ite (c : Prop) [Decidable c] (p q : Int × Int) (hp : Ie.Z p) (hq : Ie.Z q) : Ie.Z (if c then p else q) := by
  split
  · exact hp
  · exact hq
theorem Ie.Z_ok (n : Int) : Ie.Z (n, 0) := fun h => absurd rfl h
theorem Ie.Z_bad (e : Int) : Ie.Z (0, e) := fun _ => rfl
theorem Ie.two_zero (s : ByteArray) (a b : Int) : (Ie.two s a b).2 ≠ 0 → (Ie.two s a b).1 = 0 := by
  show Ie.Z (Ie.two s a b)
  unfold Ie.two
  repeat' (first | exact Ie.Z_ok _ | exact Ie.Z_bad _ | refine Ie.Z_ite _ _ _ ?_ ?_)
theorem Ie.comes_zero : ∀ x : E, (Ie.comes x).2 ≠ 0 → (Ie.comes x).1 = 0
  | .num n => fun h => absurd rfl h
  | .bad => fun h => absurd rfl h
  | .un s x => by
    unfold Ie.comes
    split
    · intro _; rfl
    · intro h; exact absurd rfl h
  | .bin s x y => by
    unfold Ie.comes
    split
    · intro _; rfl
    · split
      · intro h; exact absurd rfl h
      · split
        · intro _; rfl
        · exact Ie.two_zero _ _ _
  | .ask x y z => by
    unfold Ie.comes
    split
    · intro _; rfl
    · split
      · exact Ie.comes_zero y
      · exact Ie.comes_zero z
theorem Ie.comes_bin (s : ByteArray) (x y : E) : Ie.comes (.bin s x y) = if (Ie.comes x).2 ≠ 0 then (0, (Ie.comes x).2) else Ie.lnk s y (Ie.comes x).1 := rfl
theorem Ie.fold_take (x : E) (ys : List (ByteArray × E × Value)) (k : Nat) (s : ByteArray) (y : E) (u : Value) (h : ys[k]? = some (s, y, u)) : Ie.fold x (ys.take (k + 1)) = .bin s (Ie.fold x (ys.take k)) y := by
  obtain ⟨hk, e⟩ := List.getElem?_eq_some_iff.1 h
  rw [List.take_succ_eq_append_getElem hk, e, Ie.fold_snoc]
/-- What is wrong stays so. -/
theorem Ie.comes_stop (x : E) (ys : List (ByteArray × E × Value)) (k : Nat) (h : (Ie.comes (Ie.fold x (ys.take k))).2 ≠ 0) : ∀ m, k ≤ m → Ie.comes (Ie.fold x (ys.take m)) = Ie.comes (Ie.fold x (ys.take k)) := by
  intro m hm
  induction m with
  | zero => rw [Nat.le_zero.1 hm]
  | succ m ih =>
    rcases Nat.lt_or_ge m k with hlt | hge
    · rw [show m + 1 = k by omega]
    · cases hy : ys[m]? with
      | none =>
        rw [List.getElem?_eq_none_iff] at hy
        rw [List.take_of_length_le (by omega), ← ih hge, List.take_of_length_le hy]
      | some q =>
        obtain ⟨s, y, u⟩ := q
        rw [Ie.fold_take x ys m s y u hy, Ie.comes_bin, ih hge, if_pos h]
        exact Prod.ext (Ie.comes_zero _ h).symm rfl

set_option maxRecDepth 100000 in
set_option maxHeartbeats 2000000 in
theorem chain_any (x : E) (v : Value) (ys : List (ByteArray × E × Value)) (b cap : Nat) (w : World) (hx : ∀ W, Below w.heap.size w W → VM v x W) (hc1 : ys.length ≤ cap) (hc2 : cap ≤ maxLen)
    (hc : ∀ (i : Nat) s y u, ys[i]? = some (s, y, u) → Ie.lvS s ≠ 0 ∧ w.cell? ⟨b, i * 2, none⟩ = some (.string s) ∧ w.cell? ⟨b, i * 2 + 1, none⟩ = some u)
    (hy : ∀ (i : Nat) s y u, ys[i]? = some (s, y, u) → ∀ W, Below w.heap.size w W → VM u y W) :
    Calls Tryz.prog 144 #[.agg #[v, .slice (some ⟨b, 0, none⟩) ys.length cap]] w (ValPost (Ie.fold x ys) w) := by
  unfold maxLen at hc2
  obtain ⟨n, hn⟩ : ∃ n, n = ys.length := ⟨_, rfl⟩
  rw [← hn] at hc1 ⊢
  have hB1 : Below w.heap.size w (w.alloc (.cells #[v, .slice (some ⟨b, 0, none⟩) n cap] 124)) := Below.alloc (Below.refl _ _) (Nat.le_refl _) _
  have hbx : (w.alloc (.cells #[v, .slice (some ⟨b, 0, none⟩) n cap] 124)).heap[w.heap.size]? = some (.cells #[v, .slice (some ⟨b, 0, none⟩) n cap] 124 (0, 0)) := heap_alloc_new w _
  obtain ⟨t, p, f, rfl, hnn, hm, he, hcl⟩ := hx _ hB1
  have h0 : Ie.comes (Ie.fold x (ys.take 0)) = Ie.comes x := by rw [List.take_zero]; rfl
  obtain ⟨P, hP⟩ : ∃ P : Nat → Int × Int, P = fun k => Ie.comes (Ie.fold x (ys.take k)) := ⟨_, rfl⟩
  have HP := Lib.hid hP
  have HM := Lib.hid hcl
  have HB1 := Lib.hid hB1
  have HX := Lib.hid hbx
  have HC := Lib.hid hc
  have HY := Lib.hid hy
  have Hn := Lib.hid hn
  have H0 := Lib.hid (show (Ie.comes x) = P 0 by rw [hP]; exact h0.symm)
  clear hcl hB1 hbx hx hc hy hn h0 hP
  go_enter Tryz.func144, Tryz.ntmps144
  go_wp2_with fail
  refine HM.out.mono ?_
  rintro e w2 ⟨rfl, hB2⟩
  rw [H0.out]
  have hw2 := Below.then HB1.out hB2
  have hb2 := below_heap hB2 HX.out
  have HW2 := Lib.hid hw2
  have HX2 := Lib.hid hb2
  clear hB2 hw2 hb2 hnn hm he HM
  go_wp2_with fail
  go_loopw [4, 5, 6] (fun vn ve vi wr => ∃ k : Nat, vn = .int .i64 (P k).1 ∧ ve = .int .i64 (P k).2 ∧ vi = .int .i64 k ∧ k ≤ n ∧ Below w2.heap.size w2 wr) (fun _ _ vi _ => n - (intOf vi).toNat)
  case atStart => exact ⟨0, rfl, rfl, rfl, Nat.zero_le _, Below.refl _ _⟩
  case round =>
    obtain ⟨k, rfl, rfl, rfl, hk, hB⟩ := hrel
    obtain ⟨d0, d1⟩ := box2v (below_heap hB HX2.out)
    obtain ⟨ek, hek⟩ : ∃ ek, ek = (P k).2 := ⟨_, rfl⟩
    obtain ⟨nk, hnk⟩ : ∃ nk, nk = (P k).1 := ⟨_, rfl⟩
    rw [← hek, ← hnk]
    have HE := Lib.hid hek
    have HN := Lib.hid hnk
    have HB := Lib.hid hB
    clear hek hnk hB
    by_cases hlt : k < n
    · by_cases h0 : ek = 0
      · obtain ⟨⟨s, y, u⟩, hq⟩ : ∃ q, ys[k]? = some q := ⟨_, List.getElem?_eq_getElem (by rw [← Hn.out]; exact hlt)⟩
        obtain ⟨hs, c0, c1⟩ := HC.out k s y u hq
        have hBB := Below.then HW2.out HB.out
        replace c0 := below_cof hBB c0
        replace c1 := below_cof hBB c1
        have KL := Lib.hid (link_any s y u nk wr (fun W hW => HY.out k s y u hq W (Below.then hBB hW)) hs)
        have HQ := Lib.hid hq
        clear hq hBB hs
        have z1 : (0 : Int) ≤ k := by omega
        have z2 : (k : Int) < n := by omega
        go_wp2_with fail
        refine KL.out.mono ?_
        rintro e w3 ⟨rfl, hB3⟩
        go_wp2_with fail
        go_roundw
        case rel =>
          refine ⟨k + 1, ?_, ?_, by go_num, by omega, Below.then HB.out hB3⟩
          · have e1 : P (k + 1) = Ie.lnk s y nk := by
              rw [HP.out]
              show Ie.comes (Ie.fold x (ys.take (k + 1))) = _
              rw [Ie.fold_take x ys k s y u HQ.out, Ie.comes_bin, HN.out, HP.out]
              refine if_neg fun h => h ?_
              have := HE.out
              rw [HP.out, h0] at this
              exact this.symm
            rw [e1]
          · have e1 : P (k + 1) = Ie.lnk s y nk := by
              rw [HP.out]
              show Ie.comes (Ie.fold x (ys.take (k + 1))) = _
              rw [Ie.fold_take x ys k s y u HQ.out, Ie.comes_bin, HN.out, HP.out]
              refine if_neg fun h => h ?_
              have := HE.out
              rw [HP.out, h0] at this
              exact this.symm
            rw [e1]
        case measure => simp [intOf]; omega
      · go_wp2_with fail
        go_ret2
        refine ⟨?_, Below.then HW2.out HB.out⟩
        have e1 : Ie.comes (Ie.fold x ys) = P k := by
          have h1 := HE.out
          rw [HP.out] at h1 ⊢
          have h2 := Ie.comes_stop x ys k (by rw [← h1]; exact h0) n hk
          rw [Hn.out, List.take_length] at h2
          exact h2
        rw [e1, ← HE.out, ← HN.out]
        rfl
    · go_wp2_with fail
      go_ret2
      refine ⟨?_, Below.then HW2.out HB.out⟩
      have e1 : Ie.comes (Ie.fold x ys) = P k := by
        rw [HP.out]
        show _ = Ie.comes (Ie.fold x (ys.take k))
        rw [show k = ys.length by rw [← Hn.out]; omega, List.take_length]
      rw [e1, ← HE.out, ← HN.out]
      rfl

theorem val_any {w0 : World} {N : Nat} {T : E} {v : Value} (h : Ex w0 (· < N) T v) : ∀ W, N ≤ W.heap.size → (∀ b, b < N → W.heap[b]? = w0.heap[b]?) → VM v T W := by
  induction h with
  | num n => intro W _ _; exact ⟨_, _, _, rfl, fun _ => by kernel_rfl, fun _ => by kernel_rfl, fun _ => by kernel_rfl, vatom_any n W⟩
  | bad => intro W _ _; exact ⟨_, _, _, rfl, fun _ => by kernel_rfl, fun _ => by kernel_rfl, fun _ => by kernel_rfl, vatom_any 0 W⟩
  | un s x v _ ih =>
    intro W hN hk
    exact ⟨_, _, _, rfl, fun _ => by kernel_rfl, fun _ => by kernel_rfl, fun _ => by kernel_rfl, ahead_any s x v W fun W' hW => ih W' (Nat.le_trans hN hW.size) fun b hb => (hW.block b (by omega)).trans (hk b hb)⟩
  | ask x y z a b c _ _ _ i1 i2 i3 =>
    intro W hN hk
    have key : ∀ W', Below W.heap.size W W' → N ≤ W'.heap.size ∧ ∀ b, b < N → W'.heap[b]? = w0.heap[b]? := fun W' hW => ⟨Nat.le_trans hN hW.size, fun b hb => (hW.block b (by omega)).trans (hk b hb)⟩
    exact ⟨_, _, _, rfl, fun _ => by kernel_rfl, fun _ => by kernel_rfl, fun _ => by kernel_rfl, choice_any x y z a b c W (fun W' hW => i1 W' (key W' hW).1 (key W' hW).2) (fun W' hW => i2 W' (key W' hW).1 (key W' hW).2) (fun W' hW => i3 W' (key W' hW).1 (key W' hW).2)⟩
  | chain x v ys b cap _ hb h1 h2 h3 _ ix iy =>
    intro W hN hk
    have key : ∀ W', Below W.heap.size W W' → N ≤ W'.heap.size ∧ ∀ b, b < N → W'.heap[b]? = w0.heap[b]? := fun W' hW => ⟨Nat.le_trans hN hW.size, fun b hb => (hW.block b (by omega)).trans (hk b hb)⟩
    refine ⟨_, _, _, rfl, fun _ => by kernel_rfl, fun _ => by kernel_rfl, fun _ => by kernel_rfl, chain_any x v ys b cap W (fun W' hW => ix W' (key W' hW).1 (key W' hW).2) h1 h2 (fun i s y u hi => ?_) (fun i s y u hi W' hW => iy i s y u hi W' (key W' hW).1 (key W' hW).2)⟩
    obtain ⟨k0, k1, k2⟩ := h3 i s y u hi
    exact ⟨k0, (World.cell?_of_block (a := ⟨b, i * 2, none⟩) (hk b hb)).trans k1, (World.cell?_of_block (a := ⟨b, i * 2 + 1, none⟩) (hk b hb)).trans k2⟩
end Go.Proofs.YtognifnalfjdgaaGreatDoor

/- What is proved: an expression, however deep, is read as the document says; what a list of tokens comes to. -/
namespace Go.Proofs.YtognifnalfjdgaaGreatDoor
open Go.RowKit Go.Shelf
open Ie (E Rd)

theorem Ie.levels_none : ∀ k l, Ie.levels (fun _ => none) k l = none
  | 0, _ => rfl
  | k + 1, l => by
    show Ie.level _ _ l = none
    unfold Ie.level
    rw [Ie.levels_none k l]

set_option maxRecDepth 100000 in
set_option maxHeartbeats 4000000 in
theorem expression_deep (depth : Nat) (_ : depth ≤ 1000) (HJ : Reads 70 [.int .i64 1, .int .i64 depth] (fun _ => none)) : Reads 45 [.int .i64 depth] (fun _ => none) := by
  intro R B l b e w hG hR hBw hRS hb hT
  have K1 := Lib.hid (HJ R B l b e w hG hR hBw hRS hb hT)
  clear hG hRS hb hT HJ
  go_enter Tryz.func45, Tryz.ntmps45
  go_wp2_with fail
  refine K1.out.mono ?_
  rintro en w2 ⟨v, l2, b2, e2, rfl, hF2, hRS2, hIf2, hsp2⟩
  rcases hsp2 with ⟨T, hT, -⟩ | ⟨-, rfl, rfl⟩
  · cases hT
  · have K2 := Lib.hid (takes_any R B Ie.sAsk [] true e2 w2 hRS2)
    have HF2 := Lib.hid hF2
    have HIF := Lib.hid hIf2
    have hq : Ie.bg Ie.sAsk [] = false := rfl
    rw [hq] at K2
    clear hF2 hRS2 hIf2 hq
    go_wp2_with fail
    refine K2.out.mono ?_
    rintro en w3 ⟨rfl, hF3, hRS3⟩
    have H3 := Lib.hid (And.intro hF3 hRS3)
    clear hF3 hRS3
    go_wp2_with fail
    go_ret
    exact ⟨_, _, _, _, rfl, HF2.out.trans H3.out.1, H3.out.2, HIF.out, .inr ⟨rfl, rfl, rfl⟩⟩

set_option maxRecDepth 100000 in
set_option maxHeartbeats 8000000 in
theorem expression_any (depth : Nat) (h2 : depth ≤ 1000) (o e : Rd) (hDJ : Ie.Dec (Ie.levels o 10)) (hDE : Ie.Dec e) (HJ : Reads 70 [.int .i64 1, .int .i64 depth] (Ie.levels o 10)) (HE : Reads 45 [.int .i64 ((depth : Int) + 1)] e) :
    Reads 45 [.int .i64 depth] (Ie.exprS o e) := by
  intro R B l b er w hG hR hBw hRS hb hT
  have hRw : R < w.heap.size := by obtain ⟨_, h1, _⟩ := hRS; exact rdr_lt h1
  have K1 := Lib.hid (HJ R B l b er w hG hR hBw hRS hb hT)
  have d1 : (depth : Int) ≤ 1000 := by omega
  have d2 : (0 : Int) ≤ depth := by omega
  have HG := Lib.hid hG
  have HT := Lib.hid hT
  have HHB := Lib.hid hb
  have HHE := Lib.hid HE
  have HHDJ := Lib.hid hDJ
  have HHDE := Lib.hid hDE
  obtain ⟨S, hS⟩ : ∃ S, S = Ie.exprS o e l := ⟨_, rfl⟩
  rw [← hS]
  have HS := Lib.hid hS
  clear hG hRS hb hT HJ HE hDJ hDE hS
  go_enter Tryz.func45, Tryz.ntmps45
  go_wp2_with fail
  refine K1.out.mono ?_
  rintro en w2 ⟨v, l2, b2, e2, rfl, hF2, hRS2, hIf2, hsp2⟩
  have K2 := Lib.hid (takes_any R B Ie.sAsk l2 b2 e2 w2 hRS2)
  have HF2 := Lib.hid hF2
  have HSP2 := Lib.hid hsp2
  obtain ⟨vt, vp, rfl⟩ := hIf2
  obtain ⟨q, hq⟩ : ∃ q, q = Ie.bg Ie.sAsk l2 := ⟨_, rfl⟩
  rw [← hq] at K2
  have HQ := Lib.hid hq
  clear hF2 hRS2 hsp2 hq
  go_wp2_with fail
  refine K2.out.mono ?_
  rintro en w3 ⟨rfl, hF3, hRS3⟩
  have HF3 := Lib.hid (HF2.out.trans hF3)
  have HF23 := Lib.hid hF3
  have HRS3 := Lib.hid hRS3
  clear hF3 hRS3
  cases q with
  | false =>
    go_wp2_with fail
    go_ret
    refine ⟨_, _, _, _, rfl, HF3.out, HRS3.out, ⟨_, _, rfl⟩, ?_⟩
    rcases HSP2.out with ⟨T, hT, rfl, rfl, hE⟩ | ⟨hN, rfl, rfl⟩
    · refine .inl ⟨T, ?_, rfl, rfl, hE.keep fun g hg => ⟨⟨hg.1, Nat.lt_of_lt_of_le hg.2 HF23.out.size⟩, HF23.out.block g hg.2 (by omega)⟩⟩
      rw [HS.out]
      unfold Ie.exprS
      rw [hT]
      cases l2 with
      | nil => rfl
      | cons u r => exact if_neg (by rw [show Ie.isS u Ie.sAsk = false from HQ.out.symm]; decide)
    · refine .inr ⟨?_, rfl, rfl⟩
      rw [HS.out]
      unfold Ie.exprS
      rw [hN]
  | true =>
    obtain ⟨T, hT, rfl, rfl, hE⟩ : ∃ T, Ie.levels o 10 l = some (T, l2) ∧ b2 = b ∧ e2 = (if T.isBad then 91 else er) ∧ Ex w2 (fun g => w.heap.size ≤ g ∧ g < w2.heap.size) T (.iface vt vp) := by
      rcases HSP2.out with h | ⟨_, rfl, _⟩
      · exact h
      · have := HQ.out; cases this
    obtain ⟨u, r, rfl⟩ : ∃ u r, l2 = u :: r := by
      cases l2 with
      | nil => have := HQ.out; cases this
      | cons u r => exact ⟨u, r, rfl⟩
    have hqq : Ie.isS u Ie.sAsk = true := HQ.out.symm
    obtain ⟨k, hk0, hk1, hk2⟩ := HHDJ.out l T _ hT
    have hTr : Tb r := by
      have h := HT.out.drop (k + 1)
      rw [← List.drop_drop, ← hk2] at h
      exact h
    have hbb : b2 = true → r = [] := fun hbt => by
      have := HHB.out hbt
      subst this
      simp at hk1
      omega
    have hsp : S = match Ie.shut Ie.sCol (e r) with | none => none | some (y, r2) => match e r2 with | none => none | some (z, r3) => some (.ask T y z, r3) := by
      rw [HS.out]
      unfold Ie.exprS
      rw [hT]
      exact if_pos hqq
    have HSP := Lib.hid hsp
    have hRS3' : RS w3 R B r b2 (if T.isBad then 91 else er) := HRS3.out
    have h3s := HF3.out.size
    have K3 := Lib.hid (HHE.out R B r b2 (if T.isBad then 91 else er) w3 (HG.out.fb hR HF3.out HG.out.pos) hR (by omega) hRS3' hbb hTr)
    have HEX := Lib.hid (show Ex w3 (fun g => w.heap.size ≤ g ∧ g < w3.heap.size) T (.iface vt vp) from hE.keep fun g hg => ⟨⟨hg.1, Nat.lt_of_lt_of_le hg.2 HF23.out.size⟩, HF23.out.block g hg.2 (by omega)⟩)
    have HTr := Lib.hid hTr
    have HBB := Lib.hid hbb
    clear hT hE hqq hk0 hk1 hk2 hTr hbb hsp hRS3' h3s
    go_wp2_with fail
    refine K3.out.mono ?_
    rintro en w4 ⟨v4, l4, b4, e4, rfl, hF4, hRS4, hIf4, hsp4⟩
    obtain ⟨yt, yp, rfl⟩ := hIf4
    have K4 := Lib.hid (must_any R B Ie.sCol l4 b4 e4 w4 hRS4)
    have HF4 := Lib.hid hF4
    have HSP4 := Lib.hid hsp4
    clear hF4 hRS4 hsp4
    go_wp2_with fail
    refine K4.out.mono ?_
    rintro en w5 ⟨rfl, hF5, hRS5⟩
    have hw5 := (HF3.out.trans HF4.out).trans hF5
    -- behind the colon: read so far, or broken
    have hst : ∃ l5 b5 e5, RS w5 R B l5 b5 e5 ∧ ((∃ Y, Ie.shut Ie.sCol (e r) = some (Y, l5) ∧ b5 = b2 ∧ e5 = (if Y.isBad then 91 else if T.isBad then 91 else er) ∧ Ex w5 (fun g => w.heap.size ≤ g ∧ g < w5.heap.size) Y (.iface yt yp) ∧ Tb l5 ∧ (b5 = true → l5 = [])) ∨ (Ie.shut Ie.sCol (e r) = none ∧ l5 = [] ∧ b5 = true)) := by
      rcases HSP4.out with ⟨Y, hY, rfl, rfl, hEY⟩ | ⟨hN, rfl, rfl⟩
      · cases hq : Ie.bg Ie.sCol l4 with
        | true =>
          rw [hq] at hRS5
          obtain ⟨m, hm0, hm1, hm2⟩ := HHDE.out r Y l4 hY
          have h3s := HF3.out.size
          refine ⟨_, _, _, hRS5, .inl ⟨Y, by rw [hY]; exact Ie.shut_yes hq, rfl, rfl, hEY.keep fun g hg => ⟨⟨by have := hg.1; omega, Nat.lt_of_lt_of_le hg.2 hF5.size⟩, hF5.block g hg.2 (by have := hg.1; omega)⟩, ?_, fun hbt => ?_⟩⟩
          · show Tb l4.tail
            rw [hm2, List.tail_drop]
            exact HTr.out.drop _
          · have := HBB.out hbt
            subst this
            simp at hm1
            omega
        | false =>
          rw [hq] at hRS5
          exact ⟨_, _, _, hRS5, .inr ⟨by rw [hY]; exact Ie.shut_no hq, rfl, rfl⟩⟩
      · exact ⟨_, _, _, hRS5, .inr ⟨by rw [hN]; rfl, rfl, rfl⟩⟩
    obtain ⟨l5, b5, e5, hRS5', hst⟩ := hst
    have HST := Lib.hid hst
    have hT5 : Tb l5 := by
      rcases hst with ⟨_, _, _, _, _, h, _⟩ | ⟨_, rfl, _⟩
      · exact h
      · exact ⟨by simp, fun t ht => by simp at ht⟩
    have hb5 : b5 = true → l5 = [] := by
      rcases hst with ⟨_, _, _, _, _, _, h⟩ | ⟨_, rfl, _⟩
      · exact h
      · exact fun _ => rfl
    have h5s := hw5.size
    have K5 := Lib.hid (HHE.out R B l5 b5 e5 w5 (HG.out.fb hR hw5 HG.out.pos) hR (by omega) hRS5' hb5 hT5)
    have HF5 := Lib.hid hF5
    have HW5 := Lib.hid hw5
    clear hF5 hRS5 hRS5' hst hT5 hb5 h5s hw5
    go_wp2_with fail
    refine K5.out.mono ?_
    rintro en w6 ⟨v6, l6, b6, e6, rfl, hF6, hRS6, hIf6, hsp6⟩
    obtain ⟨zt, zp, rfl⟩ := hIf6
    have HF6 := Lib.hid hF6
    have HRS6 := Lib.hid hRS6
    have HSP6 := Lib.hid hsp6
    clear hF6 hRS6 hsp6
    go_wp2_with fail
    go_ret
    refine ⟨_, l6, b6, e6, rfl, HW5.out.trans HF6.out, HRS6.out, ⟨_, _, rfl⟩, ?_⟩
    rcases HST.out with ⟨Y, hY, rfl, rfl, hEY, _, _⟩ | ⟨hN, rfl, rfl⟩
    · rcases HSP6.out with ⟨Z, hZ, rfl, rfl, hEZ⟩ | ⟨hN, rfl, rfl⟩
      · refine .inl ⟨.ask T Y Z, by rw [HSP.out, hY]; dsimp only; rw [hZ], rfl, ?_, .ask T Y Z _ _ _ ?_ ?_ ?_⟩
        · show _ = if (T.isBad || (Y.isBad || Z.isBad)) = true then _ else _
          cases T.isBad <;> cases Y.isBad <;> cases Z.isBad <;> rfl
        · refine HEX.out.keep fun g hg => ?_
          have h4 := HF4.out.size
          have h5 := HF5.out.size
          have h6 := HF6.out.size
          exact ⟨⟨hg.1, by omega⟩, (HF6.out.block g (by omega) (by omega)).trans ((HF5.out.block g (by omega) (by omega)).trans (HF4.out.block g hg.2 (by omega)))⟩
        · exact hEY.keep fun g hg => ⟨⟨hg.1, Nat.lt_of_lt_of_le hg.2 HF6.out.size⟩, HF6.out.block g hg.2 (by omega)⟩
        · exact hEZ.keep fun g hg => ⟨⟨by have := hg.1; have := HW5.out.size; omega, hg.2⟩, rfl⟩
      · exact .inr ⟨by rw [HSP.out, hY]; dsimp only; rw [hN], rfl, rfl⟩
    · rcases HSP6.out with ⟨Z, hZ, -⟩ | ⟨_, rfl, rfl⟩
      · rw [HHDE.out.nil] at hZ; cases hZ
      · exact .inr ⟨by rw [HSP.out, hN], rfl, rfl⟩

theorem joined_all (o : Rd) (depth : Nat) (hdep : depth ≤ 1000) (hD : Ie.Dec o) (HO : Reads 70 [.int .i64 11, .int .i64 depth] o) : ∀ k, k ≤ 10 → Reads 70 [.int .i64 ((11 - k : Nat) : Int), .int .i64 depth] (Ie.levels o k)
  | 0, _ => HO
  | k + 1, hk => by
    have ih := joined_all o depth hdep hD HO k (by omega)
    have h := joined_step (10 - k) depth (Ie.levels o k) (by omega) (by omega) hdep (Ie.levels_dec hD k) (by rw [show (((10 - k : Nat) : Int) + 1) = ((11 - k : Nat) : Int) by omega]; exact ih)
    rw [show 11 - (k + 1) = 10 - k by omega]
    exact h
/-- Operands and expressions at each depth. -/
theorem reads_all (HN : NumC 13 Ie.number) (HQ : NumC 15 Ie.quote) : ∀ d, d ≤ 61 → Reads 89 [.int .i64 ((61 - d : Nat) : Int)] (Ie.oper d) ∧ Reads 45 [.int .i64 ((61 - d : Nat) : Int)] (Ie.expr d)
  | 0, _ => by
    have ho := operand_deep 61 (by decide) (by decide)
    refine ⟨ho, ?_⟩
    have hj := joined_all (fun _ => none) 61 (by decide) (fun _ _ _ h => by cases h) (by
      intro R B l b e w hG hR hBw hRS hb hT
      exact joined_base 0 61 ho R B l b e w hG hR hBw hRS hb hT) 10 (Nat.le_refl _)
    refine expression_deep 61 (by decide) ?_
    rw [show Ie.levels (fun _ => none) 10 = fun _ => none from funext fun l => Ie.levels_none 10 l] at hj
    exact hj
  | d + 1, hd => by
    obtain ⟨io, ie⟩ := reads_all HN HQ d (by omega)
    have hdd := Ie.both_dec d
    have hd1 := Ie.both_dec (d + 1)
    have e1 : (((61 - (d + 1) : Nat) : Int) + 1) = ((61 - d : Nat) : Int) := by omega
    have ho : Reads 89 [.int .i64 ((61 - (d + 1) : Nat) : Int)] (Ie.oper (d + 1)) :=
      operand_any (61 - (d + 1)) (by omega) (Ie.oper d) (Ie.expr d) HN HQ fun s => by rw [e1]; exact behind_any s _ (Ie.oper d) (Ie.expr d) io ie
    refine ⟨ho, ?_⟩
    have hj := joined_all (Ie.oper (d + 1)) (61 - (d + 1)) (by omega) hd1.1 (joined_base (d + 1) (61 - (d + 1)) ho) 10 (Nat.le_refl _)
    exact expression_any (61 - (d + 1)) (by omega) (Ie.oper (d + 1)) (Ie.expr d) (Ie.levels_dec hd1.1 10) hdd.2 hj (by rw [e1]; exact ie)
end Go.Proofs.YtognifnalfjdgaaGreatDoor

/- What is proved: append(x, l...) of tokens, whatever l is. -/
namespace Go.Proofs.YtognifnalfjdgaaGreatDoor
open Go.RowKit Go.Shelf

theorem run_append_empty {P : Program} {w : World} (base : Nat) (t ty e : TypeId) (i : TypeInfo) (size : Nat) (ht : P.underlying t = some (.slice e)) (hi : P.info? e = some i)
    (v : Value) (n : Nat) (xs : List Value) (hown : w.ownsRow base e size v n xs) (ad : Option Addr) (c : Nat) :
    (Builtin.append_ #[t, t] ty #[v, .slice ad 0 c]).run P w = .ok v w := by
  cases ad with
  | none =>
    rcases hown.2 with ⟨rfl, rfl⟩ | ⟨g, cap, cur, rfl, _, _, hnc, _⟩
    · simp [Builtin.append_, run_underlying ht, sizeOf, typeInfo, hi, Builtin.lenOf, Builtin.firstCells]
    · simp [Builtin.append_, run_underlying ht, sizeOf, typeInfo, hi, Builtin.lenOf, Builtin.firstCells, hnc, storeCells]
  | some a =>
    rcases hown.2 with ⟨rfl, rfl⟩ | ⟨g, cap, cur, rfl, _, _, hnc, _⟩
    · simp [Builtin.append_, run_underlying ht, sizeOf, typeInfo, hi, Builtin.lenOf, Builtin.firstCells, loadCells, loadCellsFrom]
    · simp [Builtin.append_, run_underlying ht, sizeOf, typeInfo, hi, Builtin.lenOf, Builtin.firstCells, hnc, storeCells, loadCells, loadCellsFrom]

/-- The cells of tokens, one behind the other. -/
theorem ks_news {w : World} {g o' n c : Nat} {l2 : List K} (hu : Ks w (.slice (some ⟨g, o', none⟩) n c) l2) : ∀ j q, (ksCells l2)[j]? = some q → w.cell? ((⟨g, o', none⟩ : Addr).add j) = some q := by
  obtain ⟨ad', c', e, -, -, h3⟩ := hu
  injection e with e1 e2 e3
  subst e1
  intro j q hj
  have hlt := (List.getElem?_eq_some_iff.1 hj).1
  rw [ksCells_length] at hlt
  have hd : j / 6 < l2.length := by omega
  obtain ⟨t, ht⟩ : ∃ t, l2[j / 6]? = some t := ⟨_, List.getElem?_eq_getElem hd⟩
  obtain ⟨g', o'', e, k0, k1, k2, k3, k4, k5⟩ := h3 _ t ht
  injection e with e
  injection e with e1 e2
  subst e1 e2
  have hadd : (⟨g, o', none⟩ : Addr).add j = ⟨g, o' + j, none⟩ := by unfold Addr.add; split <;> simp_all
  rw [hadd]
  have key : ∀ m v, (kCells t)[m]? = some v → j = j / 6 * 6 + m → w.cell? ⟨g, o' + j / 6 * 6 + m, none⟩ = some v → w.cell? ⟨g, o' + j, none⟩ = some q := fun m v hm he hc => by
    have h4 := ksCells_get l2 (j / 6) t ht m v hm
    rw [← he, hj] at h4
    injection h4 with h4
    rw [h4, ← hc]
    congr 2
    omega
  have hm : j % 6 = 0 ∨ j % 6 = 1 ∨ j % 6 = 2 ∨ j % 6 = 3 ∨ j % 6 = 4 ∨ j % 6 = 5 := by omega
  rcases hm with hm | hm | hm | hm | hm | hm
  · exact key 0 _ rfl (by omega) k0
  · exact key 1 _ rfl (by omega) k1
  · exact key 2 _ rfl (by omega) k2
  · exact key 3 _ rfl (by omega) k3
  · exact key 4 _ rfl (by omega) k4
  · exact key 5 _ rfl (by omega) k5
set_option maxRecDepth 100000 in
theorem wpList_append_ks {w : World} {ops : Array Oper} {rest : List Oper} {o : Oper} {a : Act} {Q : Exit → Act → World → Prop} (hgd : o.guard = none) (s x : Operand)
    (ho : o.op = .call { callee := .builtin .append, args := #[s, x], argTypes := #[26, 26] }) (base : Nat) (v : Value) (n : Nat) (l : List K) (hs : a.eval s = v) (hown : w.ownsRow base 54 6 v n (ksCells l))
    (u : Value) (l2 : List K) (hx : a.eval x = u) (hu : Ks w u l2) (hn : n + l2.length ≤ 1000000) (hbase : base ≤ w.heap.size)
    (h : ∀ v' w', w'.ownsRow base 54 6 v' (n + l2.length) (ksCells (l ++ l2)) → w.grownBy w' v.ownBlock → wpList Tryz.prog ops Q rest (a.put o.dst v') w') : wpList Tryz.prog ops Q (o :: rest) a w := by
  obtain ⟨i0, hi, hz0, hz1, hz2⟩ := info_parts infoTok
  obtain ⟨ad, c, rfl, h1, h2, h3⟩ := hu
  rcases Nat.eq_zero_or_pos l2.length with h0 | hpos
  · obtain rfl : l2 = [] := List.length_eq_zero_iff.1 h0
    refine wpList_plain hgd fun K hK => ?_
    have hrun := run_append_empty (P := Tryz.prog) (w := w) base 26 o.type 54 i0 6 Tryz.underlying26 hi v n (ksCells l) hown ad c
    unfold Oper.wp
    simp [execOp, ho, resolve, invoke, builtin, hs, hx, hrun, Result.andThen]
    exact hK _ _ (h v w (by rw [List.append_nil]; exact hown) ⟨rfl, rfl, rfl, Nat.le_refl _, fun _ _ _ => rfl⟩)
  · obtain ⟨g, o', rfl, c0⟩ := h3 0 _ (List.getElem?_eq_getElem hpos)
    refine wpList_append_lies w hgd s x 26 ho base 54 i0 _ 6 56 Tryz.underlying26 hi hz0 hz1 hz2 rfl (by decide) v n (ksCells l) hs hown ⟨g, o', none⟩ l2.length c (ksCells l2) hx (ksCells_length l2) ?_ (ksCells_one l2) hpos (by unfold maxLen; omega) (by omega) hbase w.heap.size rfl ?_
    · exact ks_news ⟨_, c, rfl, h1, h2, h3⟩
    · intro g2 cap w' hr hg _ _
      rw [← ksCells_append] at hr
      exact h _ _ hr hg
theorem row_emptyK (w : World) : (w.alloc (.cells #[] 54)).ownsRow w.heap.size 54 6 (.slice (some ⟨w.heap.size, 0, none⟩) 0 0) 0 (ksCells []) := World.ownsRow_made w #[] 0 (Nat.le_refl _) (Nat.zero_le _) rfl
end Go.Proofs.YtognifnalfjdgaaGreatDoor
