/- What is proved: how the statements' world lies in memory, and that it stays. -/
import Derived.Test.YthhcahojbgcihaaR4
namespace Go.Proofs.Ythhcahojbgcihaa
open Go.RowKit Bd

def vrow (F : Nat → Value) (n : Nat) : List Value := (List.range n).map F
def putAt {α : Type} (F : Nat → α) (n : Nat) (v : α) : Nat → α := fun i => if i = n then v else F i
theorem vrow_put (F : Nat → Value) (n : Nat) (v : Value) : vrow (putAt F n v) (n + 1) = vrow F n ++ [v] := by
  unfold vrow
  rw [List.range_succ, List.map_append]
  congr 1
  · refine List.map_congr_left fun i hi => ?_
    have : i < n := by simpa using hi
    exact if_neg (by omega)
  · simp [putAt]
theorem vrow_at (F : Nat → Value) {n i : Nat} (h : i < n) : (vrow F n)[i]? = some (F i) := by simp [vrow, h]
theorem vrow_length (F : Nat → Value) (n : Nat) : (vrow F n).length = n := by simp [vrow]

def nodeV (X : Nat → Nat) : Nat → Value := fun i => .int .i64 (X i : Int)

/-- The statements' world at block q: an arena, its conditions X, their tables T, and what they hold for, G; n of them. -/
structure Wd (w : World) (B q p m : Nat) (sv lv tv : Value) (vars : Nat) (ds : List Dec) (n : Nat) (X : Nat → Nat) (T : Nat → Value) (G : Nat → (Nat → Bool) → Bool) : Prop where
  ar : Ar w B p m sv vars ds
  blk : w.heap[q]? = some (.cells #[.pointer (some ⟨p, 0, none⟩), .int .i64 (vars : Int), lv, tv] 31 (0, 0))
  lrow : w.ownsRow B 35 1 lv n (vrow (nodeV X) n)
  trow : w.ownsRow B 37 1 tv n (vrow T n)
  has : ∀ i, i < n → Has ds (X i) (G i)
  tab : ∀ i, i < n → Tab w B (T i) (2 ^ vars) (fun s => G i (Bd.bits s))
  two : 2 ≤ n
  few : n ≤ 100
  hq : B ≤ q

section
variable {w w' : World} {B q p m vars : Nat} {sv sv' lv tv : Value} {ds ds' : List Dec} {n : Nat} {X : Nat → Nat} {T : Nat → Value} {G : Nat → (Nat → Bool) → Bool}

theorem own_kept {b0 e size k : Nat} {v : Value} {xs : List Value} (h : w.ownsRow b0 e size v k xs) (hk : ∀ g, g < w.heap.size → v.ownBlock = some g → w'.heap[g]? = w.heap[g]?) : w'.ownsRow b0 e size v k xs := by
  refine ⟨h.1, ?_⟩
  rcases h.2 with h0 | ⟨g, cap, cur, hv, hg, hh, r⟩
  · exact .inl h0
  · exact .inr ⟨g, cap, cur, hv, hg, (hk g (lt_of_get hh) (by rw [hv]; rfl)).trans hh, r⟩

/-- A row of another kind is none of the arena's blocks. -/
theorem own_fr {b0 e size k : Nat} {v : Value} {xs : List Value} (h : w.ownsRow b0 e size v k xs) (hA : Ar w B p m sv vars ds) (F : Fr p m sv w sv' w') (h75 : e ≠ 75) (h67 : e ≠ 67) : w'.ownsRow b0 e size v k xs := by
  refine ⟨h.1, ?_⟩
  rcases h.2 with h0 | ⟨g, cap, cur, hv, hg, hh, r⟩
  · exact .inl h0
  · refine .inr ⟨g, cap, cur, hv, hg, (F.blk g (lt_of_get hh) ?_ ?_ ?_).trans hh, r⟩
    · rintro rfl
      have := hA.blk
      rw [hh] at this
      injection this with this
      injection this with _ e1
      exact h75 e1
    · rintro rfl
      have := hA.map
      rw [hh] at this
      cases this
    · intro e1
      rcases hA.row.2 with ⟨rfl, _⟩ | ⟨g', cap', cur', rfl, _, hh', _⟩
      · cases e1
      · have : g' = g := by simpa [Value.ownBlock] using e1
        subst this
        rw [hh] at hh'
        injection hh' with hh'
        injection hh' with _ e2
        exact h67 e2

theorem Wd.fr (h : Wd w B q p m sv lv tv vars ds n X T G) (hA : Ar w' B p m sv' vars ds') (F : Fr p m sv w sv' w') (K : Keep ds ds') : Wd w' B q p m sv' lv tv vars ds' n X T G := by
  refine ⟨hA, ?_, own_fr h.lrow h.ar F (by decide) (by decide), own_fr h.trow h.ar F (by decide) (by decide), fun i hi => K _ _ (h.has i hi), fun i hi => own_fr (h.tab i hi) h.ar F (by decide) (by decide), h.two, h.few, h.hq⟩
  refine (F.blk q (lt_of_get h.blk) ?_ ?_ ?_).trans h.blk
  · rintro rfl
    have := h.ar.blk
    rw [h.blk] at this
    injection this with this
    injection this with _ e1
    exact absurd e1 (by decide)
  · rintro rfl
    have := h.ar.map
    rw [h.blk] at this
    cases this
  · intro e1
    rcases h.ar.row.2 with ⟨rfl, _⟩ | ⟨g', cap', cur', rfl, _, hh', _⟩
    · cases e1
    · have : g' = q := by simpa [Value.ownBlock] using e1
      subst this
      rw [h.blk] at hh'
      injection hh' with hh'
      injection hh' with _ e2
      exact absurd e2 (by decide)

theorem Wd.below (h : Wd w B q p m sv lv tv vars ds n X T G) (hb : Below w.heap.size w w') : Wd w' B q p m sv lv tv vars ds n X T G :=
  h.fr (h.ar.below hb) (Fr.of_below hb p m sv) (Keep.refl _)
theorem Wd.drew (h : Wd w B q p m sv lv tv vars ds n X T G) : Wd w.drew B q p m sv lv tv vars ds n X T G := h.below (Below.refl _ _).drew
theorem Wd.drewN (h : Wd w B q p m sv lv tv vars ds n X T G) (k : Nat) : Wd (w.drewN k) B q p m sv lv tv vars ds n X T G := h.below (below_drewN (Below.refl _ _) k)

theorem Wd.c0 (h : Wd w B q p m sv lv tv vars ds n X T G) : w.cell? ⟨q, 0, none⟩ = some (.pointer (some ⟨p, 0, none⟩)) := cell_of_row _ _ _ _ _ _ h.blk
theorem Wd.c1 (h : Wd w B q p m sv lv tv vars ds n X T G) : w.cell? ⟨q, 1, none⟩ = some (.int .i64 (vars : Int)) := cell_of_row _ _ _ _ _ _ h.blk
theorem Wd.c2 (h : Wd w B q p m sv lv tv vars ds n X T G) : w.cell? ⟨q, 2, none⟩ = some lv := cell_of_row _ _ _ _ _ _ h.blk
theorem Wd.c3 (h : Wd w B q p m sv lv tv vars ds n X T G) : w.cell? ⟨q, 3, none⟩ = some tv := cell_of_row _ _ _ _ _ _ h.blk

theorem Wd.forms (h : Wd w B q p m sv lv tv vars ds n X T G) : ∃ bl cl bt ct, lv = .slice (some ⟨bl, 0, none⟩) n cl ∧ tv = .slice (some ⟨bt, 0, none⟩) n ct ∧ bl < w.heap.size ∧ bt < w.heap.size := by
  have h2 := h.two
  obtain ⟨bl, cl, e1, _, h1⟩ := h.lrow.form (by omega)
  obtain ⟨bt, ct, e2, _, h3⟩ := h.trow.form (by omega)
  exact ⟨bl, cl, bt, ct, e1, e2, h1, h3⟩

theorem Wd.lcell {bl cl : Nat} (h : Wd w B q p m sv (.slice (some ⟨bl, 0, none⟩) n cl) tv vars ds n X T G) {i : Nat} (hi : i < n) : w.cell? ⟨bl, i, none⟩ = some (.int .i64 (X i : Int)) :=
  (h.lrow.cellAt i (by omega)).trans (vrow_at _ hi)
theorem Wd.tcell {bt ct : Nat} (h : Wd w B q p m sv lv (.slice (some ⟨bt, 0, none⟩) n ct) vars ds n X T G) {i : Nat} (hi : i < n) : w.cell? ⟨bt, i, none⟩ = some (T i) :=
  (h.trow.cellAt i (by omega)).trans (vrow_at _ hi)

theorem Fr.base {sv' : Value} (F : Fr p m sv w sv' w') (h : Ar w B p m sv vars ds) : Below B w w' :=
  ⟨F.os, F.tape, F.output, F.size, fun k hk => by
    have h1 := h.hp
    have h2 := h.hm
    have h3 := lt_of_get h.blk
    exact F.blk k (by omega) (by omega) (by omega) (fun e => by have := (h.row.lt k e).1; omega)⟩
end
end Go.Proofs.Ythhcahojbgcihaa
