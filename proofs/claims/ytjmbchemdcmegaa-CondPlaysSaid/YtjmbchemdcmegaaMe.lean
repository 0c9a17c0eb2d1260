/- The reader in memory: items outside conditionals, and those that are open; each row in a block of its own. -/
import Derived.Test.YtjmbchemdcmegaaRc
namespace Go.Proofs.Ytjmbchemdcmegaa
open Go.RowKit
open Ct Ct.T

/-- Nothing that was there has changed but in blocks of X. -/
structure Only (W W' : World) (X : Nat → Prop) : Prop where
  os : W'.os = W.os
  tape : W'.tape = W.tape
  output : W'.output = W.output
  size : W.heap.size ≤ W'.heap.size
  block : ∀ k, k < W.heap.size → ¬ X k → W'.heap[k]? = W.heap[k]?
theorem Only.of_gr {W W' : World} {v v' : Value} (h : Gr W W' v v') : Only W W' (fun k => v.ownBlock = some k) := ⟨h.g.os, h.g.tape, h.g.output, h.g.size, fun _ hk hn => h.block hk hn⟩
theorem Only.set {W W' : World} {X : Nat → Prop} (h : Only W W' X) (a : Addr) (u : Value) : Only W (W'.setCell a u) (fun k => X k ∨ k = a.block) :=
  ⟨h.os, h.tape, h.output, by simpa using h.size, fun k hk hn => by
    have hn' : ¬ X k ∧ k ≠ a.block := ⟨fun h => hn (.inl h), fun h => hn (.inr h)⟩
    rw [Below.heap_setCell _ _ _ _ hn'.2]; exact h.block k hk hn'.1⟩
theorem Only.refl (W : World) (X : Nat → Prop) : Only W W X := ⟨rfl, rfl, rfl, Nat.le_refl _, fun _ _ _ => rfl⟩
theorem Only.below {W W' : World} {X : Nat → Prop} {B : Nat} (h : Only W W' X) (hB : B ≤ W.heap.size) (hX : ∀ k, X k → B ≤ k) : Below B W W' :=
  ⟨h.os, h.tape, h.output, h.size, fun k hk => h.block k (by omega) fun x => by have := hX k x; omega⟩

def Ap (a b : Value) : Prop := ∀ k, a.ownBlock = some k → b.ownBlock ≠ some k
theorem Ap.symm {a b : Value} (h : Ap a b) : Ap b a := fun k e e' => h k e' e
def owns (vs : List (Value × Value)) : List Value := vs.flatMap fun p => [p.1, p.2]
def own (tv iv : Value) (vs : List (Value × Value)) : List Value := tv :: iv :: owns vs
/-- Blocks that no row is written in. -/
def okb (R : Nat) (L : List Value) (g : Nat) : Prop := g ≠ R ∧ ∀ v ∈ L, v.ownBlock ≠ some g

theorem ok_step {W W' : World} {R : Nat} {L L' : List Value} {X : Nat → Prop} (hO : Only W W' X) (hX : ∀ g, okb R L g → ¬ X g)
    (hS : ∀ v' ∈ L', ∀ k, v'.ownBlock = some k → (∃ v ∈ L, v.ownBlock = some k) ∨ W.heap.size ≤ k) : ∀ g, okb R L g → g < W.heap.size → okb R L' g ∧ W'.heap[g]? = W.heap[g]? := fun g hg hlt =>
  ⟨⟨hg.1, fun v' hv' e => by
    rcases hS v' hv' g e with ⟨v, hv, e'⟩ | h
    · exact hg.2 v hv e'
    · omega⟩, hO.block g hlt (hX g hg)⟩

/-- An open conditional in memory. -/
structure FrOk (W : World) (base : Nat) (ok : Nat → Prop) (f : Fm) (bv lv : Value) (bxs lxs : List Value) : Prop where
  brow : W.ownsRow base 41 2 bv (f.dn.len + 1) (bxs ++ [.int .i64 f.b, lv])
  bct : CT W ok false bxs f.dn
  lrow : W.ownsRow base 39 3 lv f.cur.len lxs
  lct : CT W ok true lxs f.cur
def Frs (W : World) (base : Nat) (ok : Nat → Prop) : List Value → List Fm → List (Value × Value) → Prop
  | cs, [], [] => cs = []
  | cs, f :: st, p :: vs => ∃ cs' bxs lxs, cs = cs' ++ [.int .i64 f.line, .int .i64 0, p.1, .bool f.els] ∧ FrOk W base ok f p.1 p.2 bxs lxs ∧ Frs W base ok cs' st vs
  | _, _, _ => False

theorem FrOk.keep {W W' : World} {base : Nat} {ok ok' : Nat → Prop} {f : Fm} {bv lv : Value} {bxs lxs : List Value} (h : FrOk W base ok f bv lv bxs lxs) (hk : ∀ g, ok g → g < W.heap.size → ok' g ∧ W'.heap[g]? = W.heap[g]?)
    (h1 : ∀ k, bv.ownBlock = some k → W'.heap[k]? = W.heap[k]?) (h2 : ∀ k, lv.ownBlock = some k → W'.heap[k]? = W.heap[k]?) : FrOk W' base ok' f bv lv bxs lxs :=
  ⟨row_heap h.brow h1, CT.keep hk _ _ _ h.bct, row_heap h.lrow h2, CT.keep hk _ _ _ h.lct⟩
theorem Frs.keep {W W' : World} {base : Nat} {ok ok' : Nat → Prop} (hk : ∀ g, ok g → g < W.heap.size → ok' g ∧ W'.heap[g]? = W.heap[g]?) (st : List Fm) : ∀ (vs : List (Value × Value)) (cs : List Value), Frs W base ok cs st vs →
    (∀ v ∈ owns vs, ∀ k, v.ownBlock = some k → W'.heap[k]? = W.heap[k]?) → Frs W' base ok' cs st vs := by
  induction st with
  | nil => intro vs cs h _; cases vs with
    | nil => exact h
    | cons p vs => exact h
  | cons f st ih =>
    intro vs cs h hb
    cases vs with
    | nil => exact h
    | cons p vs =>
      obtain ⟨cs', bxs, lxs, rfl, h1, h2⟩ := h
      exact ⟨cs', bxs, lxs, rfl, h1.keep hk (hb _ (by simp [owns])) (hb _ (by simp [owns])), ih vs cs' h2 fun v hv => hb v (by
        simp only [owns, List.flatMap_cons, List.mem_append]; exact .inr hv)⟩
theorem Frs.length {W : World} {base : Nat} {ok : Nat → Prop} (st : List Fm) : ∀ (vs : List (Value × Value)) (cs : List Value), Frs W base ok cs st vs → cs.length = st.length * 4 := by
  induction st with
  | nil => intro vs cs h; cases vs with
    | nil => rw [show cs = [] from h]; rfl
    | cons p vs => exact h.elim
  | cons f st ih =>
    intro vs cs h
    cases vs with
    | nil => exact h.elim
    | cons p vs =>
      obtain ⟨cs', bxs, lxs, rfl, h1, h2⟩ := h
      have := ih vs cs' h2
      simp only [List.length_append, List.length_cons, List.length_nil, this]; omega
theorem Frs.lt {W : World} {base : Nat} {ok : Nat → Prop} (st : List Fm) : ∀ (vs : List (Value × Value)) (cs : List Value), Frs W base ok cs st vs → ∀ v ∈ owns vs, ∀ k, v.ownBlock = some k → base ≤ k ∧ k < W.heap.size := by
  induction st with
  | nil => intro vs cs h; cases vs with
    | nil => intro v hv; simp [owns] at hv
    | cons p vs => exact h.elim
  | cons f st ih =>
    intro vs cs h
    cases vs with
    | nil => exact h.elim
    | cons p vs =>
      obtain ⟨cs', bxs, lxs, rfl, h1, h2⟩ := h
      intro v hv
      simp only [owns, List.flatMap_cons, List.cons_append, List.nil_append, List.mem_cons] at hv
      rcases hv with rfl | rfl | hv
      · exact h1.brow.lt
      · exact h1.lrow.lt
      · exact ih vs cs' h2 v hv

structure RS (W : World) (base R : Nat) (s : S) (tv iv : Value) (vs : List (Value × Value)) (cs xs : List Value) : Prop where
  blk : W.heap[R]? = some (.cells #[iv, tv] 46 (0, 0))
  hR : base ≤ R
  nR : ∀ v ∈ own tv iv vs, v.ownBlock ≠ some R
  ap : (own tv iv vs).Pairwise Ap
  trow : W.ownsRow base 55 4 tv s.2.length cs
  fr : Frs W base (okb R (own tv iv vs)) cs s.2 vs
  irow : W.ownsRow base 39 3 iv s.1.len xs
  out : CT W (okb R (own tv iv vs)) true xs s.1

section
variable {W W1 : World} {base R : Nat} {s : S} {tv iv : Value} {vs : List (Value × Value)} {cs xs : List Value}
theorem RS.lt (h : RS W base R s tv iv vs cs xs) : ∀ v ∈ own tv iv vs, ∀ k, v.ownBlock = some k → base ≤ k ∧ k < W.heap.size := by
  intro v hv
  simp only [own, List.mem_cons] at hv
  rcases hv with rfl | rfl | hv
  · exact h.trow.lt
  · exact h.irow.lt
  · exact Frs.lt _ _ _ h.fr v hv
theorem RS.ltR (h : RS W base R s tv iv vs cs xs) : R < W.heap.size := lt_of_block h.blk
/-- The same state, where no block of it has changed. -/
theorem RS.keep (h : RS W base R s tv iv vs cs xs) (hO : Only W W1 (fun _ => False)) : RS W1 base R s tv iv vs cs xs := by
  have hb : ∀ v ∈ own tv iv vs, ∀ k, v.ownBlock = some k → W1.heap[k]? = W.heap[k]? := fun v hv k e => hO.block k (h.lt v hv k e).2 (fun h => h)
  have hk : ∀ g, okb R (own tv iv vs) g → g < W.heap.size → okb R (own tv iv vs) g ∧ W1.heap[g]? = W.heap[g]? := fun g hg hlt => ⟨hg, hO.block g hlt (fun h => h)⟩
  exact ⟨(hO.block R h.ltR (fun h => h)).trans h.blk, h.hR, h.nR, h.ap, row_heap h.trow (hb _ (by simp [own])), Frs.keep hk _ _ _ h.fr (fun v hv => hb v (by simp [own, hv])), row_heap h.irow (hb _ (by simp [own])), CT.keep hk _ _ _ h.out⟩
theorem RS.drewN (h : RS W base R s tv iv vs cs xs) (q : Nat) : RS (W.drewN q) base R s tv iv vs cs xs := h.keep ⟨rfl, rfl, rfl, Nat.le_refl _, fun _ _ _ => rfl⟩
theorem RS.alloc (h : RS W base R s tv iv vs cs xs) (o : Obj) : RS (W.alloc o) base R s tv iv vs cs xs := h.keep ⟨rfl, rfl, rfl, by simp, fun k hk _ => Below.heap_alloc W o k hk⟩
end

theorem Ap.grow {W W1 : World} {v v' u : Value} (hG : Gr W W1 v v') (hu : ∀ k, u.ownBlock = some k → k < W.heap.size) (a : Ap v u) : Ap v' u := fun k e e' => by
  rcases hG.own k e with h | h
  · exact a k h e'
  · have := hu k e'; omega
theorem Gr.not {W W1 : World} {v v' : Value} {R : Nat} (hG : Gr W W1 v v') (hR : R < W.heap.size) (h : v.ownBlock ≠ some R) : v'.ownBlock ≠ some R := fun e => by
  rcases hG.own R e with h' | h'
  · exact h h'
  · omega
theorem nil_own (c : Nat) (n : Nat) : (Value.slice none n c).ownBlock = none := rfl

/-- (A) An item behind all others, outside conditionals. -/
theorem RS.addNil {W W1 : World} {base R : Nat} {out : T} {tv iv iv' sv : Value} {cs xs : List Value} {l e : Nat} {s' : T} (h : RS W base R (out, []) tv iv [] cs xs) (hG : Gr W W1 iv iv')
    (hrow : W1.ownsRow base 39 3 iv' (out.len + 1) (xs ++ [.int .i64 l, .int .i64 e, sv])) (hs : TS W (okb R (own tv iv [])) false sv s') :
    RS (W1.setCell ⟨R, 0, none⟩ iv') base R (add l e s' (out, [])) tv iv' [] cs (xs ++ [.int .i64 l, .int .i64 e, sv]) ∧ Only W (W1.setCell ⟨R, 0, none⟩ iv') (fun k => iv.ownBlock = some k ∨ k = R) := by
  have hO : Only W (W1.setCell ⟨R, 0, none⟩ iv') (fun k => iv.ownBlock = some k ∨ k = R) := (Only.of_gr hG).set ⟨R, 0, none⟩ iv'
  have hnR : iv.ownBlock ≠ some R := h.nR _ (by simp [own])
  have hnR' := hG.not h.ltR hnR
  have hlt := h.lt
  have htv : ∀ k, tv.ownBlock = some k → (W1.setCell ⟨R, 0, none⟩ iv').heap[k]? = W.heap[k]? := fun k e => by
    refine hO.block k (hlt _ (by simp [own]) k e).2 ?_
    rintro (h1 | rfl)
    · have := h.ap; simp only [own, owns, List.flatMap_nil, List.pairwise_cons, List.mem_cons, List.not_mem_nil, or_false, forall_eq] at this; exact this.1 k e h1
    · exact h.nR _ (by simp [own]) e
  have hk := ok_step (R := R) (L := own tv iv []) (L' := own tv iv' []) hO (fun g hg => by
      rintro (h1 | rfl)
      · exact hg.2 _ (by simp [own]) h1
      · exact hg.1 rfl) (fun v' hv' k e => by
      simp only [own, owns, List.flatMap_nil, List.mem_cons, List.not_mem_nil, or_false] at hv'
      rcases hv' with rfl | rfl
      · exact .inl ⟨_, by simp [own], e⟩
      · rcases hG.own k e with h1 | h1
        · exact .inl ⟨_, by simp [own], h1⟩
        · exact .inr h1)
  have hb : W1.heap[R]? = some (.cells #[iv, tv] 46 (0, 0)) := (hG.block h.ltR hnR).trans h.blk
  refine ⟨⟨?_, h.hR, ?_, ?_, row_heap h.trow htv, Frs.keep hk _ _ _ h.fr (by simp [owns]), ?_, ?_⟩, hO⟩
  · simp [World.setCell, Array.getElem?_modify, hb]
  · intro v hv
    simp only [own, owns, List.flatMap_nil, List.mem_cons, List.not_mem_nil, or_false] at hv
    rcases hv with rfl | rfl
    · exact h.nR _ (by simp [own])
    · exact hnR'
  · have := h.ap
    simp only [own, owns, List.flatMap_nil, List.pairwise_cons, List.mem_cons, List.not_mem_nil, or_false, forall_eq, List.Pairwise.nil, and_true, forall_const, false_implies] at this ⊢
    exact (Ap.grow hG (fun k e => (hlt _ (by simp [own]) k e).2) this.symm).symm
  · rw [show (add l e s' (out, [])).1.len = out.len + 1 from len_snoc _ _ _ _]
    exact ownsRow_setCell_other hrow hnR' _
  · exact CT.app _ _ _ _ _ (CT.keep hk _ _ _ h.out) (CT.item1 (TS.keep hs hk))

theorem set_last2 (bxs : List Value) (a b b' : Value) (n : Nat) (h : bxs.length = n) : (bxs ++ [a, b]).set (n + 1) b' = bxs ++ [a, b'] := by
  subst h
  rw [List.set_append_right _ _ (by omega), show bxs.length + 1 - bxs.length = 1 by omega]; rfl
theorem set_last4 (bxs : List Value) (a b c d c' : Value) (n : Nat) (h : bxs.length = n) : (bxs ++ [a, b, c, d]).set (n + 2) c' = bxs ++ [a, b, c', d] := by
  subst h
  rw [List.set_append_right _ _ (by omega), show bxs.length + 2 - bxs.length = 2 by omega]; rfl
theorem set_last4' (bxs : List Value) (a b c d d' : Value) (n : Nat) (h : bxs.length = n) : (bxs ++ [a, b, c, d]).set (n + 3) d' = bxs ++ [a, b, c, d'] := by
  subst h
  rw [List.set_append_right _ _ (by omega), show bxs.length + 3 - bxs.length = 3 by omega]; rfl
theorem mem_own_cons {tv iv : Value} {p : Value × Value} {vs : List (Value × Value)} {v : Value} : v ∈ own tv iv (p :: vs) ↔ v = tv ∨ v = iv ∨ v = p.1 ∨ v = p.2 ∨ v ∈ owns vs := by
  simp [own, owns]
theorem mem_own {tv iv : Value} {vs : List (Value × Value)} {v : Value} : v ∈ own tv iv vs ↔ v = tv ∨ v = iv ∨ v ∈ owns vs := by
  simp [own]
theorem own_pair {tv iv : Value} {p : Value × Value} {vs : List (Value × Value)} : (own tv iv (p :: vs)).Pairwise Ap ↔ (Ap tv iv ∧ Ap tv p.1 ∧ Ap tv p.2 ∧ ∀ v ∈ owns vs, Ap tv v) ∧ (Ap iv p.1 ∧ Ap iv p.2 ∧ ∀ v ∈ owns vs, Ap iv v) ∧ (Ap p.1 p.2 ∧ ∀ v ∈ owns vs, Ap p.1 v) ∧ (∀ v ∈ owns vs, Ap p.2 v) ∧ (owns vs).Pairwise Ap := by
  simp [own, owns, List.pairwise_cons]
theorem own_pair0 {tv iv : Value} {vs : List (Value × Value)} : (own tv iv vs).Pairwise Ap ↔ (Ap tv iv ∧ ∀ v ∈ owns vs, Ap tv v) ∧ (∀ v ∈ owns vs, Ap iv v) ∧ (owns vs).Pairwise Ap := by
  simp [own, List.pairwise_cons]

/-- (B) An item behind all others of the branch that is read. -/
theorem RS.addTop {W W1 : World} {base R : Nat} {out : T} {f : Fm} {st : List Fm} {tv iv bv lv lv' sv : Value} {vs : List (Value × Value)} {cs' bxs lxs xs : List Value} {l e gb bc : Nat} {s' : T}
    (h : RS W base R (out, f :: st) tv iv ((bv, lv) :: vs) (cs' ++ [.int .i64 f.line, .int .i64 0, bv, .bool f.els]) xs) (hf : FrOk W base (okb R (own tv iv ((bv, lv) :: vs))) f bv lv bxs lxs) (hfs : Frs W base (okb R (own tv iv ((bv, lv) :: vs))) cs' st vs)
    (hG : Gr W W1 lv lv') (hrow : W1.ownsRow base 39 3 lv' (f.cur.len + 1) (lxs ++ [.int .i64 l, .int .i64 e, sv])) (hs : TS W (okb R (own tv iv ((bv, lv) :: vs))) false sv s') (hbv : bv = .slice (some ⟨gb, 0, none⟩) (f.dn.len + 1) bc) :
    RS (W1.setCell ⟨gb, f.dn.len * 2 + 1, none⟩ lv') base R (add l e s' (out, f :: st)) tv iv ((bv, lv') :: vs) (cs' ++ [.int .i64 f.line, .int .i64 0, bv, .bool f.els]) xs ∧ Only W (W1.setCell ⟨gb, f.dn.len * 2 + 1, none⟩ lv') (fun k => lv.ownBlock = some k ∨ k = gb) := by
  have hO : Only W (W1.setCell ⟨gb, f.dn.len * 2 + 1, none⟩ lv') (fun k => lv.ownBlock = some k ∨ k = gb) := (Only.of_gr hG).set ⟨gb, f.dn.len * 2 + 1, none⟩ lv'
  have hgb : bv.ownBlock = some gb := by rw [hbv]; rfl
  obtain ⟨⟨a1, a2, a3, a4⟩, ⟨a5, a6, a7⟩, ⟨a8, a9⟩, a10, a11⟩ := own_pair.1 h.ap
  dsimp only at a2 a3 a5 a6 a8 a9 a10
  have hlt := fun v hv k e => (h.lt v hv k e).2
  have hother : ∀ v, v ∈ own tv iv ((bv, lv) :: vs) → Ap v bv → Ap v lv → ∀ k, v.ownBlock = some k → (W1.setCell ⟨gb, f.dn.len * 2 + 1, none⟩ lv').heap[k]? = W.heap[k]? := fun v hv h1 h2 k e => by
    refine hO.block k (hlt v hv k e) ?_
    rintro (h3 | rfl)
    · exact h2 k e h3
    · exact h1 k e hgb
  have hS : ∀ v' ∈ own tv iv ((bv, lv') :: vs), ∀ k, v'.ownBlock = some k → (∃ v ∈ own tv iv ((bv, lv) :: vs), v.ownBlock = some k) ∨ W.heap.size ≤ k := fun v' hv' k e => by
    rcases mem_own_cons.1 hv' with rfl | rfl | rfl | rfl | hv'
    · exact .inl ⟨_, mem_own_cons.2 (.inl rfl), e⟩
    · exact .inl ⟨_, mem_own_cons.2 (.inr (.inl rfl)), e⟩
    · exact .inl ⟨_, mem_own_cons.2 (.inr (.inr (.inl rfl))), e⟩
    · rcases hG.own k e with h1 | h1
      · exact .inl ⟨_, mem_own_cons.2 (.inr (.inr (.inr (.inl rfl)))), h1⟩
      · exact .inr h1
    · exact .inl ⟨_, mem_own_cons.2 (.inr (.inr (.inr (.inr hv')))), e⟩
  have hk := ok_step (R := R) (L := own tv iv ((bv, lv) :: vs)) (L' := own tv iv ((bv, lv') :: vs)) hO (fun g hg => by
      rintro (h1 | rfl)
      · exact hg.2 _ (mem_own_cons.2 (.inr (.inr (.inr (.inl rfl))))) h1
      · exact hg.2 _ (mem_own_cons.2 (.inr (.inr (.inl rfl)))) hgb) hS
  have hlR : lv.ownBlock ≠ some R := h.nR _ (mem_own_cons.2 (.inr (.inr (.inr (.inl rfl)))))
  have hgR : gb ≠ R := fun e => h.nR _ (mem_own_cons.2 (.inr (.inr (.inl rfl)))) (by rw [hgb, e])
  have hbW1 : W1.ownsRow base 41 2 bv (f.dn.len + 1) (bxs ++ [.int .i64 f.b, lv]) := row_heap hf.brow fun k e => hG.block (hlt _ (mem_own_cons.2 (.inr (.inr (.inl rfl)))) k e) (a8 k e)
  have hbl : bxs.length = f.dn.len * 2 := CT.length _ _ _ hf.bct
  have hlv' : lv'.ownBlock ≠ some gb := hG.not (hlt _ (mem_own_cons.2 (.inr (.inr (.inl rfl)))) gb hgb) (a8.symm.symm gb hgb)
  refine ⟨⟨?_, h.hR, ?_, ?_, ?_, ?_, ?_, ?_⟩, hO⟩
  · rw [hO.block R h.ltR (fun h1 => h1.elim hlR (fun h1 => hgR h1.symm))]; exact h.blk
  · intro v hv
    rcases mem_own_cons.1 hv with rfl | rfl | rfl | rfl | hv
    · exact h.nR _ (mem_own_cons.2 (.inl rfl))
    · exact h.nR _ (mem_own_cons.2 (.inr (.inl rfl)))
    · exact h.nR _ (mem_own_cons.2 (.inr (.inr (.inl rfl))))
    · exact hG.not h.ltR hlR
    · exact h.nR _ (mem_own_cons.2 (.inr (.inr (.inr (.inr hv)))))
  · have g1 : ∀ u ∈ own tv iv ((bv, lv) :: vs), Ap lv u → Ap lv' u := fun u hu a => Ap.grow hG (hlt u hu) a
    exact own_pair.2 ⟨⟨a1, a2, (g1 _ (mem_own_cons.2 (.inl rfl)) a3.symm).symm, a4⟩, ⟨a5, (g1 _ (mem_own_cons.2 (.inr (.inl rfl))) a6.symm).symm, a7⟩, ⟨(g1 _ (mem_own_cons.2 (.inr (.inr (.inl rfl)))) a8.symm).symm, a9⟩, fun v hv => g1 _ (mem_own_cons.2 (.inr (.inr (.inr (.inr hv))))) (a10 v hv), a11⟩
  · exact row_heap h.trow (hother _ (mem_own_cons.2 (.inl rfl)) a2 a3)
  · refine ⟨cs', bxs, lxs ++ [.int .i64 l, .int .i64 e, sv], rfl, ⟨?_, CT.keep hk _ _ _ hf.bct, ?_, ?_⟩, Frs.keep hk _ _ _ hfs fun v hv => hother v (mem_own_cons.2 (.inr (.inr (.inr (.inr hv))))) (a9 v hv).symm (a10 v hv).symm⟩
    · subst hbv
      have := (hbW1.stored (f.dn.len * 2 + 1) lv').1
      rwa [set_last2 _ _ _ _ _ hbl] at this
    · show World.ownsRow _ base 39 3 lv' (f.cur.snoc l e s').len _
      rw [len_snoc]
      exact ownsRow_setCell_other hrow hlv' _
    · exact CT.app _ _ _ _ _ (CT.keep hk _ _ _ hf.lct) (CT.item1 (TS.keep hs hk))
  · exact row_heap h.irow (hother _ (mem_own_cons.2 (.inr (.inl rfl))) a5 a6)
  · exact CT.keep hk _ _ _ h.out

/-- (C) The branch that is read is done: a line begins the next one. -/
theorem RS.begun {W W1 : World} {base R : Nat} {out : T} {f : Fm} {st : List Fm} {tv iv bv bv' lv : Value} {vs : List (Value × Value)} {cs' bxs lxs xs : List Value} {i gt tc : Nat}
    (h : RS W base R (out, f :: st) tv iv ((bv, lv) :: vs) (cs' ++ [.int .i64 f.line, .int .i64 0, bv, .bool f.els]) xs) (hf : FrOk W base (okb R (own tv iv ((bv, lv) :: vs))) f bv lv bxs lxs) (hfs : Frs W base (okb R (own tv iv ((bv, lv) :: vs))) cs' st vs)
    (hG : Gr W W1 bv bv') (hrow : W1.ownsRow base 41 2 bv' (f.dn.len + 1 + 1) (bxs ++ [.int .i64 f.b, lv] ++ [.int .i64 i, .slice none 0 0])) (htv : tv = .slice (some ⟨gt, 0, none⟩) (st.length + 1) tc) :
    RS (W1.setCell ⟨gt, st.length * 4 + 2, none⟩ bv') base R (out, ⟨f.line, f.els, f.dn.snoc f.b 0 f.cur, i, nil⟩ :: st) tv iv ((bv', .slice none 0 0) :: vs) (cs' ++ [.int .i64 f.line, .int .i64 0, bv', .bool f.els]) xs ∧ Only W (W1.setCell ⟨gt, st.length * 4 + 2, none⟩ bv') (fun k => bv.ownBlock = some k ∨ k = gt) := by
  have hO : Only W (W1.setCell ⟨gt, st.length * 4 + 2, none⟩ bv') (fun k => bv.ownBlock = some k ∨ k = gt) := (Only.of_gr hG).set ⟨gt, st.length * 4 + 2, none⟩ bv'
  have hgt : tv.ownBlock = some gt := by rw [htv]; rfl
  obtain ⟨⟨a1, a2, a3, a4⟩, ⟨a5, a6, a7⟩, ⟨a8, a9⟩, a10, a11⟩ := own_pair.1 h.ap
  dsimp only at a2 a3 a5 a6 a8 a9 a10
  have hlt := fun v hv k e => (h.lt v hv k e).2
  have hother : ∀ v, v ∈ own tv iv ((bv, lv) :: vs) → Ap v bv → Ap v tv → ∀ k, v.ownBlock = some k → (W1.setCell ⟨gt, st.length * 4 + 2, none⟩ bv').heap[k]? = W.heap[k]? := fun v hv h1 h2 k e => by
    refine hO.block k (hlt v hv k e) ?_
    rintro (h3 | rfl)
    · exact h1 k e h3
    · exact h2 k e hgt
  have hS : ∀ v' ∈ own tv iv ((bv', .slice none 0 0) :: vs), ∀ k, v'.ownBlock = some k → (∃ v ∈ own tv iv ((bv, lv) :: vs), v.ownBlock = some k) ∨ W.heap.size ≤ k := fun v' hv' k e => by
    rcases mem_own_cons.1 hv' with rfl | rfl | rfl | rfl | hv'
    · exact .inl ⟨_, mem_own_cons.2 (.inl rfl), e⟩
    · exact .inl ⟨_, mem_own_cons.2 (.inr (.inl rfl)), e⟩
    · rcases hG.own k e with h1 | h1
      · exact .inl ⟨_, mem_own_cons.2 (.inr (.inr (.inl rfl))), h1⟩
      · exact .inr h1
    · cases e
    · exact .inl ⟨_, mem_own_cons.2 (.inr (.inr (.inr (.inr hv')))), e⟩
  have hk := ok_step (R := R) (L := own tv iv ((bv, lv) :: vs)) (L' := own tv iv ((bv', .slice none 0 0) :: vs)) hO (fun g hg => by
      rintro (h1 | rfl)
      · exact hg.2 _ (mem_own_cons.2 (.inr (.inr (.inl rfl)))) h1
      · exact hg.2 _ (mem_own_cons.2 (.inl rfl)) hgt) hS
  have hbR : bv.ownBlock ≠ some R := h.nR _ (mem_own_cons.2 (.inr (.inr (.inl rfl))))
  have hgR : gt ≠ R := fun e => h.nR _ (mem_own_cons.2 (.inl rfl)) (by rw [hgt, e])
  have htW1 : W1.ownsRow base 55 4 tv (st.length + 1) (cs' ++ [.int .i64 f.line, .int .i64 0, bv, .bool f.els]) := row_heap h.trow fun k e => hG.block (hlt _ (mem_own_cons.2 (.inl rfl)) k e) (a2 k e)
  have hcl : cs'.length = st.length * 4 := Frs.length _ _ _ hfs
  have g1 : ∀ u ∈ own tv iv ((bv, lv) :: vs), Ap bv u → Ap bv' u := fun u hu a => Ap.grow hG (hlt u hu) a
  have hbv' : bv'.ownBlock ≠ some gt := fun e => g1 _ (mem_own_cons.2 (.inl rfl)) a2.symm gt e hgt
  have n1 : ∀ u : Value, Ap (.slice none 0 0) u := fun u k e => by cases e
  have hlv := hother lv (mem_own_cons.2 (.inr (.inr (.inr (.inl rfl))))) a8.symm a3.symm
  have hlvok : ∀ k, lv.ownBlock = some k → okb R (own tv iv ((bv', .slice none 0 0) :: vs)) k := fun k e => by
    refine ⟨fun e' => h.nR _ (mem_own_cons.2 (.inr (.inr (.inr (.inl rfl))))) (by rw [e, e']), fun v hv e' => ?_⟩
    rcases mem_own_cons.1 hv with rfl | rfl | rfl | rfl | hv
    · exact a3 k e' e
    · exact a6 k e' e
    · exact g1 _ (mem_own_cons.2 (.inr (.inr (.inr (.inl rfl))))) a8 k e' e
    · cases e'
    · exact a10 v hv k e e'
  refine ⟨⟨?_, h.hR, ?_, ?_, ?_, ?_, ?_, ?_⟩, hO⟩
  · rw [hO.block R h.ltR (fun h1 => h1.elim hbR (fun h1 => hgR h1.symm))]; exact h.blk
  · intro v hv
    rcases mem_own_cons.1 hv with rfl | rfl | rfl | rfl | hv
    · exact h.nR _ (mem_own_cons.2 (.inl rfl))
    · exact h.nR _ (mem_own_cons.2 (.inr (.inl rfl)))
    · exact hG.not h.ltR hbR
    · simp [nil_own]
    · exact h.nR _ (mem_own_cons.2 (.inr (.inr (.inr (.inr hv)))))
  · exact own_pair.2 ⟨⟨a1, (g1 _ (mem_own_cons.2 (.inl rfl)) a2.symm).symm, (n1 _).symm, a4⟩, ⟨(g1 _ (mem_own_cons.2 (.inr (.inl rfl))) a5.symm).symm, (n1 _).symm, a7⟩, ⟨(n1 _).symm, fun v hv => g1 _ (mem_own_cons.2 (.inr (.inr (.inr (.inr hv))))) (a9 v hv)⟩, fun v _ => n1 v, a11⟩
  · subst htv
    have := (htW1.stored (st.length * 4 + 2) bv').1
    rwa [set_last4 _ _ _ _ _ _ _ hcl] at this
  · refine ⟨cs', bxs ++ [.int .i64 f.b, lv], [], rfl, ⟨?_, ?_, World.ownsRow_nil _ _ _ _, rfl⟩, Frs.keep hk _ _ _ hfs fun v hv => hother v (mem_own_cons.2 (.inr (.inr (.inr (.inr hv))))) (a9 v hv).symm (a4 v hv).symm⟩
    · show World.ownsRow _ base 41 2 bv' ((f.dn.snoc f.b 0 f.cur).len + 1) _
      rw [len_snoc]
      exact ownsRow_setCell_other hrow hbv' _
    · exact CT.app _ _ _ _ _ (CT.keep hk _ _ _ hf.bct) (CT.branch1 (TS.of_row (b := true) (row_heap hf.lrow hlv) (CT.keep hk _ _ _ hf.lct) hlvok))
  · exact row_heap h.irow (hother _ (mem_own_cons.2 (.inr (.inl rfl))) a5 a1.symm)
  · exact CT.keep hk _ _ _ h.out

/-- (C') Whether it has an Else. -/
theorem RS.els {W : World} {base R : Nat} {out : T} {f : Fm} {st : List Fm} {tv iv bv lv : Value} {vs : List (Value × Value)} {cs' bxs lxs xs : List Value} {gt tc : Nat} (b : Bool)
    (h : RS W base R (out, f :: st) tv iv ((bv, lv) :: vs) (cs' ++ [.int .i64 f.line, .int .i64 0, bv, .bool f.els]) xs) (hf : FrOk W base (okb R (own tv iv ((bv, lv) :: vs))) f bv lv bxs lxs) (hfs : Frs W base (okb R (own tv iv ((bv, lv) :: vs))) cs' st vs)
    (htv : tv = .slice (some ⟨gt, 0, none⟩) (st.length + 1) tc) :
    RS (W.setCell ⟨gt, st.length * 4 + 3, none⟩ (.bool b)) base R (out, ⟨f.line, b, f.dn, f.b, f.cur⟩ :: st) tv iv ((bv, lv) :: vs) (cs' ++ [.int .i64 f.line, .int .i64 0, bv, .bool b]) xs ∧ FrOk (W.setCell ⟨gt, st.length * 4 + 3, none⟩ (.bool b)) base (okb R (own tv iv ((bv, lv) :: vs))) ⟨f.line, b, f.dn, f.b, f.cur⟩ bv lv bxs lxs ∧ Frs (W.setCell ⟨gt, st.length * 4 + 3, none⟩ (.bool b)) base (okb R (own tv iv ((bv, lv) :: vs))) cs' st vs ∧ Only W (W.setCell ⟨gt, st.length * 4 + 3, none⟩ (.bool b)) (fun k => k = gt) := by
  have hO : Only W (W.setCell ⟨gt, st.length * 4 + 3, none⟩ (.bool b)) (fun k => k = gt) := ⟨rfl, rfl, rfl, by simp, fun k _ hn => Below.heap_setCell _ _ _ _ hn⟩
  have hgt : tv.ownBlock = some gt := by rw [htv]; rfl
  obtain ⟨⟨a1, a2, a3, a4⟩, ⟨a5, a6, a7⟩, ⟨a8, a9⟩, a10, a11⟩ := own_pair.1 h.ap
  dsimp only at a2 a3 a5 a6 a8 a9 a10
  have hlt := fun v hv k e => (h.lt v hv k e).2
  have hother : ∀ v, v ∈ own tv iv ((bv, lv) :: vs) → Ap tv v → ∀ k, v.ownBlock = some k → (W.setCell ⟨gt, st.length * 4 + 3, none⟩ (.bool b)).heap[k]? = W.heap[k]? := fun v hv h2 k e => by
    refine hO.block k (hlt v hv k e) ?_
    rintro rfl
    exact h2 k hgt e
  have hk := ok_step (R := R) (L := own tv iv ((bv, lv) :: vs)) (L' := own tv iv ((bv, lv) :: vs)) hO (fun g hg => by
      rintro rfl
      exact hg.2 _ (mem_own_cons.2 (.inl rfl)) hgt) (fun v' hv' k e => .inl ⟨v', hv', e⟩)
  have hgR : gt ≠ R := fun e => h.nR _ (mem_own_cons.2 (.inl rfl)) (by rw [hgt, e])
  have hcl : cs'.length = st.length * 4 := Frs.length _ _ _ hfs
  have hf' := hf.keep hk (hother _ (mem_own_cons.2 (.inr (.inr (.inl rfl)))) a2) (hother _ (mem_own_cons.2 (.inr (.inr (.inr (.inl rfl))))) a3)
  have hfs' := Frs.keep hk _ _ _ hfs fun v hv => hother v (mem_own_cons.2 (.inr (.inr (.inr (.inr hv))))) (a4 v hv)
  have hf2 : FrOk (W.setCell ⟨gt, st.length * 4 + 3, none⟩ (.bool b)) base (okb R (own tv iv ((bv, lv) :: vs))) ⟨f.line, b, f.dn, f.b, f.cur⟩ bv lv bxs lxs := ⟨hf'.brow, hf'.bct, hf'.lrow, hf'.lct⟩
  refine ⟨⟨?_, h.hR, h.nR, h.ap, ?_, ⟨cs', bxs, lxs, rfl, hf2, hfs'⟩, ?_, CT.keep hk _ _ _ h.out⟩, hf2, hfs', hO⟩
  · rw [hO.block R h.ltR hgR.symm]; exact h.blk
  · have ht := h.trow
    subst htv
    have := (ht.stored (st.length * 4 + 3) (.bool b)).1
    rwa [set_last4' _ _ _ _ _ _ _ hcl] at this
  · exact row_heap h.irow (hother _ (mem_own_cons.2 (.inr (.inl rfl))) a1)

/-- (D) A conditional that begins. -/
theorem RS.pushed {W W1 : World} {base R : Nat} {out : T} {st : List Fm} {tv tv' iv bv : Value} {vs : List (Value × Value)} {cs xs : List Value} {i : Nat}
    (h : RS W base R (out, st) tv iv vs cs xs) (hG : Gr W W1 tv tv') (hrow : W1.ownsRow base 55 4 tv' (st.length + 1) (cs ++ [.int .i64 i, .int .i64 0, bv, .bool false]))
    (hbv : W1.ownsRow base 41 2 bv 1 [.int .i64 i, .slice none 0 0]) (hnew : ∀ k, bv.ownBlock = some k → W.heap.size ≤ k) (hne : Ap tv' bv) :
    RS (W1.setCell ⟨R, 1, none⟩ tv') base R (out, ⟨i, false, nil, i, nil⟩ :: st) tv' iv ((bv, .slice none 0 0) :: vs) (cs ++ [.int .i64 i, .int .i64 0, bv, .bool false]) xs ∧ Only W (W1.setCell ⟨R, 1, none⟩ tv') (fun k => tv.ownBlock = some k ∨ k = R) := by
  have hO : Only W (W1.setCell ⟨R, 1, none⟩ tv') (fun k => tv.ownBlock = some k ∨ k = R) := (Only.of_gr hG).set ⟨R, 1, none⟩ tv'
  obtain ⟨⟨a1, a2⟩, a3, a4⟩ := own_pair0.1 h.ap
  have hlt := fun v hv k e => (h.lt v hv k e).2
  have htR : tv.ownBlock ≠ some R := h.nR _ (mem_own.2 (.inl rfl))
  have hRl := h.ltR
  have hother : ∀ v, v ∈ own tv iv vs → Ap tv v → ∀ k, v.ownBlock = some k → (W1.setCell ⟨R, 1, none⟩ tv').heap[k]? = W.heap[k]? := fun v hv h2 k e => by
    refine hO.block k (hlt v hv k e) ?_
    rintro (h3 | rfl)
    · exact h2 k h3 e
    · exact h.nR v hv e
  have hS : ∀ v' ∈ own tv' iv ((bv, .slice none 0 0) :: vs), ∀ k, v'.ownBlock = some k → (∃ v ∈ own tv iv vs, v.ownBlock = some k) ∨ W.heap.size ≤ k := fun v' hv' k e => by
    rcases mem_own_cons.1 hv' with rfl | rfl | rfl | rfl | hv'
    · rcases hG.own k e with h1 | h1
      · exact .inl ⟨_, mem_own.2 (.inl rfl), h1⟩
      · exact .inr h1
    · exact .inl ⟨_, mem_own.2 (.inr (.inl rfl)), e⟩
    · exact .inr (hnew k e)
    · cases e
    · exact .inl ⟨_, mem_own.2 (.inr (.inr hv')), e⟩
  have hk := ok_step (R := R) (L := own tv iv vs) (L' := own tv' iv ((bv, .slice none 0 0) :: vs)) hO (fun g hg => by
      rintro (h1 | rfl)
      · exact hg.2 _ (mem_own.2 (.inl rfl)) h1
      · exact hg.1 rfl) hS
  have g1 : ∀ u ∈ own tv iv vs, Ap tv u → Ap tv' u := fun u hu a => Ap.grow hG (hlt u hu) a
  have n1 : ∀ u : Value, Ap (.slice none 0 0) u := fun u k e => by cases e
  have b1 : ∀ u ∈ own tv iv vs, Ap bv u := fun u hu k e e' => by have := hlt u hu k e'; have := hnew k e; omega
  have htR' := hG.not hRl htR
  have hbR : bv.ownBlock ≠ some R := fun e => by have := hnew R e; omega
  have hb : W1.heap[R]? = some (.cells #[iv, tv] 46 (0, 0)) := (hG.block hRl htR).trans h.blk
  refine ⟨⟨?_, h.hR, ?_, ?_, ownsRow_setCell_other hrow htR' _, ⟨cs, [], [], rfl, ⟨ownsRow_setCell_other hbv hbR _, rfl, World.ownsRow_nil _ _ _ _, rfl⟩, Frs.keep hk _ _ _ h.fr fun v hv => hother v (mem_own.2 (.inr (.inr hv))) (a2 v hv)⟩, row_heap h.irow (hother _ (mem_own.2 (.inr (.inl rfl))) a1), CT.keep hk _ _ _ h.out⟩, hO⟩
  · simp [World.setCell, Array.getElem?_modify, hb]
  · intro v hv
    rcases mem_own_cons.1 hv with rfl | rfl | rfl | rfl | hv
    · exact htR'
    · exact h.nR _ (mem_own.2 (.inr (.inl rfl)))
    · exact hbR
    · simp [nil_own]
    · exact h.nR _ (mem_own.2 (.inr (.inr hv)))
  · exact own_pair.2 ⟨⟨g1 _ (mem_own.2 (.inr (.inl rfl))) a1, hne, (n1 _).symm, fun v hv => g1 _ (mem_own.2 (.inr (.inr hv))) (a2 v hv)⟩, ⟨(b1 _ (mem_own.2 (.inr (.inl rfl)))).symm, (n1 _).symm, a3⟩, ⟨(n1 _).symm, fun v hv => b1 _ (mem_own.2 (.inr (.inr hv)))⟩, fun v _ => n1 v, a4⟩

/-- (E) A conditional that ends. -/
theorem RS.popped {W : World} {base R : Nat} {out : T} {f : Fm} {st : List Fm} {tv iv bv lv : Value} {vs : List (Value × Value)} {cs' bxs lxs xs : List Value} {gt tc : Nat}
    (h : RS W base R (out, f :: st) tv iv ((bv, lv) :: vs) (cs' ++ [.int .i64 f.line, .int .i64 0, bv, .bool f.els]) xs) (hf : FrOk W base (okb R (own tv iv ((bv, lv) :: vs))) f bv lv bxs lxs) (hfs : Frs W base (okb R (own tv iv ((bv, lv) :: vs))) cs' st vs)
    (htv : tv = .slice (some ⟨gt, 0, none⟩) (st.length + 1) tc) :
    RS (W.setCell ⟨R, 1, none⟩ (.slice (some ⟨gt, 0, none⟩) st.length tc)) base R (out, st) (.slice (some ⟨gt, 0, none⟩) st.length tc) iv vs cs' xs ∧
      TS (W.setCell ⟨R, 1, none⟩ (.slice (some ⟨gt, 0, none⟩) st.length tc)) (okb R (own (.slice (some ⟨gt, 0, none⟩) st.length tc) iv vs)) false bv (f.dn.snoc f.b 0 f.cur) ∧ Only W (W.setCell ⟨R, 1, none⟩ (.slice (some ⟨gt, 0, none⟩) st.length tc)) (fun k => k = R) := by
  obtain ⟨tw, htw⟩ : ∃ tw : Value, tw = .slice (some ⟨gt, 0, none⟩) st.length tc := ⟨_, rfl⟩
  rw [← htw]
  have hO : Only W (W.setCell ⟨R, 1, none⟩ tw) (fun k => k = R) := ⟨rfl, rfl, rfl, by simp, fun k _ hn => Below.heap_setCell _ _ _ _ hn⟩
  have hgt : tv.ownBlock = some gt := by rw [htv]; rfl
  have hgw : tw.ownBlock = some gt := by rw [htw]; rfl
  have hown : ∀ k, tw.ownBlock = some k → tv.ownBlock = some k := fun k e => by rw [hgt, ← e, hgw]
  obtain ⟨⟨a1, a2, a3, a4⟩, ⟨a5, a6, a7⟩, ⟨a8, a9⟩, a10, a11⟩ := own_pair.1 h.ap
  dsimp only at a2 a3 a5 a6 a8 a9 a10
  have hlt := fun v hv k e => (h.lt v hv k e).2
  have hother : ∀ v, v ∈ own tv iv ((bv, lv) :: vs) → ∀ k, v.ownBlock = some k → (W.setCell ⟨R, 1, none⟩ tw).heap[k]? = W.heap[k]? := fun v hv k e => by
    refine hO.block k (hlt v hv k e) ?_
    rintro rfl
    exact h.nR v hv e
  have hk := ok_step (R := R) (L := own tv iv ((bv, lv) :: vs)) (L' := own tw iv vs) hO (fun g hg => by
      rintro rfl
      exact hg.1 rfl) (fun v' hv' k e => by
      rcases mem_own.1 hv' with rfl | rfl | hv'
      · exact .inl ⟨tv, mem_own_cons.2 (.inl rfl), hown k e⟩
      · exact .inl ⟨_, mem_own_cons.2 (.inr (.inl rfl)), e⟩
      · exact .inl ⟨_, mem_own_cons.2 (.inr (.inr (.inr (.inr hv')))), e⟩)
  have hcl : cs'.length = st.length * 4 := Frs.length _ _ _ hfs
  have w1 : ∀ u : Value, Ap tv u → Ap tw u := fun u a k e => a k (hown k e)
  have hbvok : ∀ k, bv.ownBlock = some k → okb R (own tw iv vs) k := fun k e => by
    refine ⟨fun e' => h.nR _ (mem_own_cons.2 (.inr (.inr (.inl rfl)))) (by rw [e, e']), fun v hv e' => ?_⟩
    rcases mem_own.1 hv with rfl | rfl | hv
    · exact w1 _ a2 k e' e
    · exact a5 k e' e
    · exact a9 v hv k e e'
  have hlvok : ∀ k, lv.ownBlock = some k → okb R (own tw iv vs) k := fun k e => by
    refine ⟨fun e' => h.nR _ (mem_own_cons.2 (.inr (.inr (.inr (.inl rfl))))) (by rw [e, e']), fun v hv e' => ?_⟩
    rcases mem_own.1 hv with rfl | rfl | hv
    · exact w1 _ a3 k e' e
    · exact a6 k e' e
    · exact a10 v hv k e e'
  have hbr := row_heap hf.brow (hother _ (mem_own_cons.2 (.inr (.inr (.inl rfl)))))
  have hlr := row_heap hf.lrow (hother _ (mem_own_cons.2 (.inr (.inr (.inr (.inl rfl))))))
  refine ⟨⟨?_, h.hR, ?_, ?_, ?_, Frs.keep hk _ _ _ hfs fun v hv => hother v (mem_own_cons.2 (.inr (.inr (.inr (.inr hv))))), row_heap h.irow (hother _ (mem_own_cons.2 (.inr (.inl rfl)))), CT.keep hk _ _ _ h.out⟩, ?_, hO⟩
  · simp [World.setCell, Array.getElem?_modify, h.blk]
  · intro v hv
    rcases mem_own.1 hv with rfl | rfl | hv
    · exact fun e => h.nR tv (mem_own_cons.2 (.inl rfl)) (hown _ e)
    · exact h.nR _ (mem_own_cons.2 (.inr (.inl rfl)))
    · exact h.nR _ (mem_own_cons.2 (.inr (.inr (.inr (.inr hv)))))
  · exact own_pair0.2 ⟨⟨w1 _ a1, fun v hv => w1 _ (a4 v hv)⟩, a7, a11⟩
  · have ht := row_heap h.trow (hother _ (mem_own_cons.2 (.inl rfl)))
    have hx := ownsRow_take (m := st.length) (by rw [htv] at ht; exact ht) (by simp)
    rw [← htw, List.take_left' hcl] at hx
    exact hx
  · refine TS.of_row (b := false) (e := 41) (base := base) (xs := bxs ++ [.int .i64 f.b, lv]) (by rw [len_snoc]; exact hbr) (CT.app _ _ _ _ _ (CT.keep hk _ _ _ hf.bct) (CT.branch1 (TS.of_row (b := true) hlr (CT.keep hk _ _ _ hf.lct) hlvok))) hbvok
end Go.Proofs.Ytjmbchemdcmegaa
