/- The reader of a definition in memory. -/
import Derived.Test.YtfjbmenakcnadaaDoorM1
import Derived.OneCell
namespace Go.Proofs.YtfjbmenakcnadaaDoor
open Go.RowKit Go.Shelf

theorem row_heap {W W' : World} {base e sz n : Nat} {v : Value} {cs : List Value} (h : W.ownsRow base e sz v n cs) (hb : ∀ k, v.ownBlock = some k → W'.heap[k]? = W.heap[k]?) : W'.ownsRow base e sz v n cs := by
  refine ⟨h.1, ?_⟩
  rcases h.2 with h' | ⟨g, cap, cur, h', h1, h2, h3⟩
  · exact .inl h'
  · exact .inr ⟨g, cap, cur, h', h1, (hb g (by rw [h']; rfl)).trans h2, h3⟩
/-- A world in which a row has grown, and nothing else that was there has changed. -/
structure Gr (w w' : World) (u u' : Value) : Prop where
  g : w.grownBy w' u.ownBlock
  own : ∀ k, u'.ownBlock = some k → u.ownBlock = some k ∨ w.heap.size ≤ k
theorem Gr.refl (w : World) (u : Value) : Gr w w u u := ⟨⟨rfl, rfl, rfl, Nat.le_refl _, fun _ _ _ => rfl⟩, fun _ h => .inl h⟩
theorem Gr.block {w w' : World} {u u' : Value} (h : Gr w w' u u') {k : Nat} (hk : k < w.heap.size) (hn : u.ownBlock ≠ some k) : w'.heap[k]? = w.heap[k]? := h.g.block k hk (fun e => hn e.symm)
theorem Gr.trans {w w1 w2 : World} {u u1 u2 : Value} (h : Gr w w1 u u1) (k : Gr w1 w2 u1 u2) : Gr w w2 u u2 := by
  refine ⟨⟨k.g.os.trans h.g.os, k.g.tape.trans h.g.tape, k.g.output.trans h.g.output, Nat.le_trans h.g.size k.g.size, fun j hj hn => ?_⟩, fun j hj => ?_⟩
  · refine (k.g.block j (Nat.lt_of_lt_of_le hj h.g.size) fun e => ?_).trans (h.g.block j hj hn)
    rcases h.own j e.symm with h' | h'
    · exact hn h'.symm
    · omega
  · rcases k.own j hj with h' | h'
    · exact h.own j h'
    · exact .inr (Nat.le_trans h.g.size h')
theorem Gr.alloc (w : World) (u : Value) (o : Obj) : Gr w (w.alloc o) u u :=
  ⟨⟨rfl, rfl, rfl, by simp, fun k hk _ => Below.heap_alloc w o k hk⟩, fun _ h => .inl h⟩
theorem Gr.lies {w w' : World} {u : Value} {g n cap : Nat} (h : w.grownBy w' u.ownBlock) (hg : u.ownBlock = some g ∨ g = w.heap.size) : Gr w w' u (.slice (some ⟨g, 0, none⟩) n cap) := by
  refine ⟨h, fun k hk => ?_⟩
  simp only [Value.ownBlock, Option.some.injEq] at hk
  subst hk
  rcases hg with hg | hg
  · exact .inl hg
  · exact .inr (by omega)
theorem Gr.below {w w' : World} {u u' : Value} (h : Gr w w' u u') {B : Nat} (hB : B ≤ w.heap.size) (hu : ∀ k, u.ownBlock = some k → B ≤ k) : Below B w w' :=
  ⟨h.g.os, h.g.tape, h.g.output, h.g.size, fun k hk => h.block (by omega) fun e => by have := hu k e; omega⟩
theorem row_not {w : World} {base e t sz n k : Nat} {v : Value} {xs : List Value} {cs : Array Value} {fz : Nat × Nat} (h : w.ownsRow base e sz v n xs) (hb : w.heap[k]? = some (.cells cs t fz)) (ht : t ≠ e) : v.ownBlock ≠ some k := fun hk => by
  rcases h.2 with ⟨h', _⟩ | ⟨g', cap', cur, h', _, h2', _⟩
  · rw [h'] at hk; cases hk
  · rw [h'] at hk
    simp only [Value.ownBlock, Option.some.injEq] at hk
    rw [hk, hb] at h2'
    injection h2' with h2'
    injection h2' with _ h3 _
    exact ht h3

theorem grownN {w w' : World} (h : Below w.heap.size w w') (row : Option Nat) : w.grownBy w' row := ⟨h.os, h.tape, h.output, h.size, fun k hk _ => h.block k hk⟩
theorem below_from {B : Nat} {w w1 w2 : World} (h : Below B w w1) (hB : B ≤ w1.heap.size) (k : Below w1.heap.size w1 w2) : Below B w w2 := h.trans (k.mono hB)
def strCells (l : List ByteArray) : List Value := l.map .string
theorem strCells_append (a b : List ByteArray) : strCells (a ++ b) = strCells a ++ strCells b := List.map_append
theorem strCells_length (a : List ByteArray) : (strCells a).length = a.length := List.length_map _
theorem strCells_one (a : List ByteArray) : ∀ u ∈ strCells a, u.oneCell' = true := by
  intro u hu
  obtain ⟨x, _, rfl⟩ := List.mem_map.1 hu
  rfl
theorem infoStr : (Tryd.prog.info? 9).map (fun i => (i.zero, i.size, i.bytes)) = some (some (.string ByteArray.empty), 1, 16) := by kernel_rfl
theorem keyStr : Go.Maps.Keyed Tryd.prog 9 := Go.Maps.string_keyed Tryd.underlying9
theorem zeroUnit (w : World) : (zeroValue 101).run Tryd.prog w = .ok (.agg #[]) w := by kernel_rfl

/-- Tokens of older memory: what is left. -/
def Lf (W : World) (base : Nat) (v : Value) (l : List K) : Prop :=
  ∃ g o cap, v = .slice (some ⟨g, o, none⟩) l.length cap ∧ l.length ≤ cap ∧ cap ≤ maxLen ∧ g < base ∧ ∀ i t, l[i]? = some t → KAt W g (o + i * 6) t
theorem Lf.ks {W : World} {base : Nat} {v : Value} {l : List K} (h : Lf W base v l) : Ks W v l := by
  obtain ⟨g, o, cap, rfl, h1, h2, _, h3⟩ := h
  exact ⟨_, cap, rfl, h1, h2, fun i t ht => ⟨g, o, rfl, h3 i t ht⟩⟩
theorem Lf.keep {W W' : World} {base : Nat} {v : Value} {l : List K} (h : Lf W base v l) (hb : Below base W W') : Lf W' base v l := by
  obtain ⟨g, o, cap, rfl, h1, h2, h4, h3⟩ := h
  exact ⟨g, o, cap, rfl, h1, h2, h4, fun i t ht => (h3 i t ht).kept (hb.block g h4)⟩

/-- The names that are known. -/
def MapOf (W : World) (mb : Nat) (ps : List ByteArray) (va : Bool) : Prop :=
  ∃ n D, W.ownsMap (H := Unit) Tryd.prog 9 unitElem mb n D ∧ n ≤ ps.length + (if va then 1 else 0) ∧ ∀ x : ByteArray, x.size ≤ maxLen → Go.Maps.has D (.string x.data.toList) = (Mx.has ps x || (va && decide (x = Mx.VA)))

structure Rd (W : World) (base R mb : Nat) (nm : ByteArray) (fn : Bool) (pv : Value) (ps : List ByteArray) (va : Bool) (bv lv : Value) (l : List K) : Prop where
  blk : W.heap[R]? = some (.cells #[.string nm, .bool fn, pv, .bool va, bv, lv, .map (some mb)] 72 (0, 0))
  hR : base ≤ R
  hm : base ≤ mb
  prow : W.ownsRow base 9 1 pv ps.length (strCells ps)
  pR : pv.ownBlock ≠ some R
  pm : pv.ownBlock ≠ some mb
  ne : mb ≠ R
  mp : MapOf W mb ps va
  lf : Lf W base lv l

section
variable {W W' : World} {base R mb : Nat} {nm : ByteArray} {fn va : Bool} {pv bv lv : Value} {ps : List ByteArray} {l : List K}
theorem MapOf.keep (h : MapOf W mb ps va) (hg : W.grownBy W' none) : MapOf W' mb ps va := by
  obtain ⟨n, D, h1, h2⟩ := h
  exact ⟨n, D, h1.kept hg (by simp), h2⟩
theorem MapOf.set (h : MapOf W mb ps va) {a : Addr} (ha : mb ≠ a.block) (u : Value) : MapOf (W.setCell a u) mb ps va := by
  obtain ⟨n, D, h1, h2⟩ := h
  exact ⟨n, D, h1.setCell ha u, h2⟩
theorem Rd.ltR (h : Rd W base R mb nm fn pv ps va bv lv l) : R < W.heap.size := (Array.getElem?_eq_some_iff.1 h.blk).1
theorem Rd.big (h : Rd W base R mb nm fn pv ps va bv lv l) : base ≤ W.heap.size := Nat.le_trans h.hR (Nat.le_of_lt h.ltR)
theorem Rd.cell (h : Rd W base R mb nm fn pv ps va bv lv l) (i : Nat) : W.cell? ⟨R, i, none⟩ = (#[.string nm, .bool fn, pv, .bool va, bv, lv, .map (some mb)] : Array Value)[i]? := by simp [World.cell?, h.blk]
theorem Rd.froz (h : Rd W base R mb nm fn pv ps va bv lv l) (i : Nat) : W.frozen? ⟨R, i, none⟩ = false := by simp [World.frozen?, h.blk]
/-- The same reader, where new memory alone was made. -/
theorem Rd.keep (h : Rd W base R mb nm fn pv ps va bv lv l) (hb : Below W.heap.size W W') : Rd W' base R mb nm fn pv ps va bv lv l :=
  ⟨(hb.block R h.ltR).trans h.blk, h.hR, h.hm, row_below h.prow hb, h.pR, h.pm, h.ne, h.mp.keep (grownN hb none), h.lf.keep (hb.mono h.big)⟩
theorem Lf.set (h : Lf W base lv l) (hR : base ≤ R) (i : Nat) (u : Value) : Lf (W.setCell ⟨R, i, none⟩ u) base lv l :=
  h.keep ((Below.refl _ _).setCell hR u)
theorem Rd.setName (h : Rd W base R mb nm fn pv ps va bv lv l) (x : ByteArray) : Rd (W.setCell ⟨R, 0, none⟩ (.string x)) base R mb x fn pv ps va bv lv l :=
  ⟨by simp [World.setCell, Array.getElem?_modify, h.blk], h.hR, h.hm, ownsRow_setCell_other h.prow h.pR _, h.pR, h.pm, h.ne, h.mp.set h.ne _, h.lf.set h.hR _ _⟩
theorem Rd.setFn (h : Rd W base R mb nm fn pv ps va bv lv l) (x : Bool) : Rd (W.setCell ⟨R, 1, none⟩ (.bool x)) base R mb nm x pv ps va bv lv l :=
  ⟨by simp [World.setCell, Array.getElem?_modify, h.blk], h.hR, h.hm, ownsRow_setCell_other h.prow h.pR _, h.pR, h.pm, h.ne, h.mp.set h.ne _, h.lf.set h.hR _ _⟩
theorem Rd.setBody (h : Rd W base R mb nm fn pv ps va bv lv l) (x : Value) : Rd (W.setCell ⟨R, 4, none⟩ x) base R mb nm fn pv ps va x lv l :=
  ⟨by simp [World.setCell, Array.getElem?_modify, h.blk], h.hR, h.hm, ownsRow_setCell_other h.prow h.pR _, h.pR, h.pm, h.ne, h.mp.set h.ne _, h.lf.set h.hR _ _⟩
theorem Rd.setLeft (h : Rd W base R mb nm fn pv ps va bv lv l) {x : Value} {l' : List K} (hx : Lf W base x l') : Rd (W.setCell ⟨R, 5, none⟩ x) base R mb nm fn pv ps va bv x l' :=
  ⟨by simp [World.setCell, Array.getElem?_modify, h.blk], h.hR, h.hm, ownsRow_setCell_other h.prow h.pR _, h.pR, h.pm, h.ne, h.mp.set h.ne _, hx.set h.hR _ _⟩
end

/-- What is left behind the first tokens. -/
theorem Lf.part {W : World} {base g o n cap : Nat} {l : List K} (h : Lf W base (.slice (some ⟨g, o, none⟩) n cap) l) (a : Nat) (ha : a ≤ l.length) (x : Nat) (hx : a < cap → x = a * 6) :
    Lf W base (.slice (some ⟨g, o + x, none⟩) (n - a) (cap - a)) (l.drop a) := by
  obtain ⟨g', o', cap', e, h1, h2, h4, h3⟩ := h
  injection e with e1 e2 e3
  injection e1 with e1
  injection e1 with e1 e4
  subst e1 e2 e3 e4
  refine ⟨g, o + x, cap - a, by rw [List.length_drop], by rw [List.length_drop]; omega, by omega, h4, fun i t ht => ?_⟩
  rw [List.getElem?_drop] at ht
  have hlt := (List.getElem?_eq_some_iff.1 ht).1
  rw [hx (by omega), show o + a * 6 + i * 6 = o + (a + i) * 6 by omega]
  exact h3 _ t ht
end Go.Proofs.YtfjbmenakcnadaaDoor
