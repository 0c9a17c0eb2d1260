/- What is proved: a condition and its table are laid behind the others of the statements' world. -/
import Derived.Test.YthhcahojbgcihaaPl
namespace Go.Proofs.Ythhcahojbgcihaa
open Go.RowKit Bd

/-- No block but such as hold elements of kind t, or u, has turned. -/
structure Tf (t u : TypeId) (w w' : World) : Prop where
  os : w'.os = w.os
  tape : w'.tape = w.tape
  output : w'.output = w.output
  size : w.heap.size ≤ w'.heap.size
  blk : ∀ (k : Nat) (o : Obj), w.heap[k]? = some o → (∀ c f, o ≠ Obj.cells c t f) → (∀ c f, o ≠ Obj.cells c u f) → w'.heap[k]? = some o

section
variable {w w' : World} {B q p m vars : Nat} {sv lv tv : Value} {ds : List Dec} {n : Nat} {X : Nat → Nat} {T : Nat → Value} {G : Nat → (Nat → Bool) → Bool} {t u : TypeId}

theorem cells_ne {c : Array Value} {e t : TypeId} {f : Nat × Nat} (h : e ≠ t) : ∀ c' f', (Obj.cells c e f) ≠ .cells c' t f' := by
  intro c' f' he
  injection he with _ h1
  exact h h1

theorem own_tf {b0 e size k : Nat} {v : Value} {xs : List Value} (h : w.ownsRow b0 e size v k xs) (F : Tf t u w w') (h1 : e ≠ t) (h2 : e ≠ u) : w'.ownsRow b0 e size v k xs := by
  refine ⟨h.1, ?_⟩
  rcases h.2 with h0 | ⟨g, cap, cur, hv, hg, hh, r⟩
  · exact .inl h0
  · exact .inr ⟨g, cap, cur, hv, hg, F.blk g _ hh (cells_ne h1) (cells_ne h2), r⟩

theorem Ar.tf (h : Ar w B p m sv vars ds) (F : Tf t u w w') (h1 : (75 : Nat) ≠ t) (h2 : (75 : Nat) ≠ u) (h3 : (67 : Nat) ≠ t) (h4 : (67 : Nat) ≠ u) : Ar w' B p m sv vars ds :=
  ⟨F.blk p _ h.blk (cells_ne h1) (cells_ne h2), own_tf h.row F h3 h4, F.blk m _ h.map (fun _ _ e => by cases e) (fun _ _ e => by cases e), h.hp, h.hm, h.v8, h.wf, h.few⟩

/-- An append onto a row of kind t, and a store of its slice into a block of kind u. -/
theorem tf_push {w1 : World} {o : Obj} {v : Value} {size k : Nat} {xs : List Value} {a : Addr} {x : Value} {cs : Array Value} (h : w.ownsRow B t size v k xs) (hg : (w.alloc o).grownBy w1 v.ownBlock) (ha : w.heap[a.block]? = some (.cells cs u (0, 0))) : Tf t u w (w1.setCell a x) := by
  refine ⟨hg.os, hg.tape, hg.output, ?_, fun j ob hj h1 h2 => ?_⟩
  · have := hg.size
    simp [World.setCell] at this ⊢
    omega
  · have hjl := lt_of_get hj
    have hja : j ≠ a.block := by
      rintro rfl
      rw [ha] at hj
      injection hj with hj
      exact h2 _ _ hj.symm
    rw [Below.heap_setCell _ _ _ _ hja]
    have hjv : some j ≠ v.ownBlock := by
      intro e
      rcases h.2 with ⟨rfl, _⟩ | ⟨g, cap, cur, rfl, _, hh, _⟩
      · cases e
      · have : j = g := by simpa [Value.ownBlock] using e
        subst this
        rw [hj] at hh
        injection hh with hh
        exact h1 _ _ hh
    exact (hg.block j (by simp; omega) hjv).trans ((Below.heap_alloc w o j hjl).trans hj)

theorem below_push {w1 : World} {o : Obj} {v : Value} {e size k : Nat} {xs : List Value} {a : Addr} {x : Value} (h : w.ownsRow B e size v k xs) (hg : (w.alloc o).grownBy w1 v.ownBlock) (ha : B ≤ a.block) (hB : B ≤ w.heap.size) : Below B w (w1.setCell a x) :=
  (((Below.refl B w).alloc hB o).grown hg (by simp; omega) fun j hj => (h.lt j hj).1).setCell ha x

/-- The row of kind t lies at its new block still, behind the store. -/
theorem own_push {w1 : World} {e size k : Nat} {v : Value} {xs : List Value} {a : Addr} {x : Value} {cs : Array Value} (h : w1.ownsRow B e size v k xs) (ha : w1.heap[a.block]? = some (.cells cs u (0, 0))) (hne : e ≠ u) : (w1.setCell a x).ownsRow B e size v k xs := by
  refine own_kept h fun g hg hv => Below.heap_setCell _ _ _ _ ?_
  rintro rfl
  rcases h.2 with ⟨rfl, _⟩ | ⟨g, cap, cur, rfl, _, hh, _⟩
  · cases hv
  · have : g = a.block := by simpa [Value.ownBlock] using hv
    subst this
    rw [ha] at hh
    injection hh with hh
    injection hh with _ h1
    exact hne h1.symm

/-- Between the two appends. -/
structure Half (w : World) (B q p m : Nat) (sv lv tv : Value) (vars : Nat) (ds : List Dec) (n : Nat) (X : Nat → Nat) (T : Nat → Value) (G : Nat → (Nat → Bool) → Bool) (r : Nat) (tt : Value) (g : (Nat → Bool) → Bool) : Prop where
  ar : Ar w B p m sv vars ds
  blk : w.heap[q]? = some (.cells #[.pointer (some ⟨p, 0, none⟩), .int .i64 (vars : Int), lv, tv] 31 (0, 0))
  lrow : w.ownsRow B 35 1 lv (n + 1) (vrow (nodeV X) n ++ [.int .i64 (r : Int)])
  trow : w.ownsRow B 37 1 tv n (vrow T n)
  has : ∀ i, i < n → Has ds (X i) (G i)
  tab : ∀ i, i < n → Tab w B (T i) (2 ^ vars) (fun s => G i (Bd.bits s))
  hr : Has ds r g
  ht : Tab w B tt (2 ^ vars) (fun s => g (Bd.bits s))
  two : 2 ≤ n
  few : n < 100
  hq : B ≤ q

theorem Half.make {w1 : World} {o : Obj} {r gg cap : Nat} {tt : Value} {g : (Nat → Bool) → Bool} (h : Wd w B q p m sv lv tv vars ds n X T G) (hn : n < 100) (hr : Has ds r g) (ht : Tab w B tt (2 ^ vars) (fun s => g (Bd.bits s)))
    (hown : w1.ownsRow B 35 1 (.slice (some ⟨gg, 0, none⟩) (n + 1) cap) (n + 1) (vrow (nodeV X) n ++ [.int .i64 (r : Int)])) (hg : (w.alloc o).grownBy w1 lv.ownBlock) :
    Half (w1.setCell ⟨q, 2, none⟩ (.slice (some ⟨gg, 0, none⟩) (n + 1) cap)) B q p m sv (.slice (some ⟨gg, 0, none⟩) (n + 1) cap) tv vars ds n X T G r tt g := by
  have F : Tf 35 31 w (w1.setCell ⟨q, 2, none⟩ (.slice (some ⟨gg, 0, none⟩) (n + 1) cap)) := tf_push h.lrow hg h.blk
  have hql := lt_of_get h.blk
  have hq1 : w1.heap[q]? = some (.cells #[.pointer (some ⟨p, 0, none⟩), .int .i64 (vars : Int), lv, tv] 31 (0, 0)) := by
    refine (hg.block q (by simp; omega) ?_).trans ((Below.heap_alloc w o q hql).trans h.blk)
    intro e
    rcases h.lrow.2 with ⟨rfl, _⟩ | ⟨g', cap', cur, rfl, _, hh, _⟩
    · cases e
    · have : q = g' := by simpa [Value.ownBlock] using e
      subst this
      rw [h.blk] at hh
      injection hh with hh
      injection hh with _ h1
      exact absurd h1 (by decide)
  refine ⟨h.ar.tf F (by decide) (by decide) (by decide) (by decide), ?_, own_push hown hq1 (by decide), own_tf h.trow F (by decide) (by decide), h.has, fun i hi => own_tf (h.tab i hi) F (by decide) (by decide), hr, own_tf ht F (by decide) (by decide), h.two, hn, h.hq⟩
  simp [World.setCell, Array.getElem?_modify, hq1]

theorem Half.done {w1 : World} {o : Obj} {r gg cap : Nat} {tt : Value} {g : (Nat → Bool) → Bool} (h : Half w B q p m sv lv tv vars ds n X T G r tt g)
    (hown : w1.ownsRow B 37 1 (.slice (some ⟨gg, 0, none⟩) (n + 1) cap) (n + 1) (vrow T n ++ [tt])) (hg : (w.alloc o).grownBy w1 tv.ownBlock) :
    Wd (w1.setCell ⟨q, 3, none⟩ (.slice (some ⟨gg, 0, none⟩) (n + 1) cap)) B q p m sv lv (.slice (some ⟨gg, 0, none⟩) (n + 1) cap) vars ds (n + 1) (putAt X n r) (putAt T n tt) (putAt G n g) := by
  have F : Tf 37 31 w (w1.setCell ⟨q, 3, none⟩ (.slice (some ⟨gg, 0, none⟩) (n + 1) cap)) := tf_push h.trow hg h.blk
  have hql := lt_of_get h.blk
  have hq1 : w1.heap[q]? = some (.cells #[.pointer (some ⟨p, 0, none⟩), .int .i64 (vars : Int), lv, tv] 31 (0, 0)) := by
    refine (hg.block q (by simp; omega) ?_).trans ((Below.heap_alloc w o q hql).trans h.blk)
    intro e
    rcases h.trow.2 with ⟨rfl, _⟩ | ⟨g', cap', cur, rfl, _, hh, _⟩
    · cases e
    · have : q = g' := by simpa [Value.ownBlock] using e
      subst this
      rw [h.blk] at hh
      injection hh with hh
      injection hh with _ h1
      exact absurd h1 (by decide)
  have eX : vrow (nodeV (putAt X n r)) (n + 1) = vrow (nodeV X) n ++ [.int .i64 (r : Int)] := by
    rw [← vrow_put]
    unfold vrow
    refine List.map_congr_left fun i _ => ?_
    unfold nodeV putAt
    split <;> rfl
  refine ⟨h.ar.tf F (by decide) (by decide) (by decide) (by decide), ?_, ?_, ?_, fun i hi => ?_, fun i hi => ?_, by have := h.two; omega, h.few, h.hq⟩
  · simp [World.setCell, Array.getElem?_modify, hq1]
  · rw [eX]; exact own_tf h.lrow F (by decide) (by decide)
  · rw [vrow_put]; exact own_push hown hq1 (by decide)
  · by_cases e : i = n
    · subst e; simp only [putAt, if_true]; exact h.hr
    · simp only [putAt, if_neg e]; exact h.has i (by omega)
  · by_cases e : i = n
    · subst e; simp only [putAt, if_true]; exact own_tf h.ht F (by decide) (by decide)
    · simp only [putAt, if_neg e]; exact own_tf (h.tab i (by omega)) F (by decide) (by decide)
end
end Go.Proofs.Ythhcahojbgcihaa
