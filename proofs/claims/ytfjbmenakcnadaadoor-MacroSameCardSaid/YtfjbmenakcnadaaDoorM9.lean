/- What is proved: what bare tells, the program's own and the document's. -/
import Derived.Test.YtfjbmenakcnadaaDoorM8
import Derived.Laws.OwnMore
namespace Go.Proofs.YtfjbmenakcnadaaDoor
open Go.RowKit Go.Shelf

theorem eql_toks (w : World) (a : Option Addr) (n c n' c' : Nat) : (binOp .eql 24 (.slice a n c) (.slice none n' c')).run Tryd.prog w = .ok (.bool a.isNone) w := Lib.run_eql_slice_nil w _ _ a n c n' c' Tryd.underlying24

/-- The cells of tokens, one behind the other. -/
theorem Ks.row {W : World} {g o n cap : Nat} {ts : List K} (h : Ks W (.slice (some ⟨g, o, none⟩) n cap) ts) : ∀ j u, (ksCells ts)[j]? = some u → W.cell? ⟨g, o + j, none⟩ = some u := by
  intro j u hj
  have hlt := (List.getElem?_eq_some_iff.1 hj).1
  rw [ksCells_length] at hlt
  have hi : j / 6 < ts.length := by omega
  obtain ⟨g', o', e, c⟩ : ∃ g' o', (some (⟨g, o, none⟩ : Addr)) = some ⟨g', o', none⟩ ∧ KAt W g' (o' + j / 6 * 6) ts[j / 6] := by
    obtain ⟨ad', cap', e, _, _, h3⟩ := h
    injection e with e1 e2 e3
    subst e1
    exact h3 _ _ (List.getElem?_eq_getElem hi)
  injection e with e
  injection e with e1 e2
  subst e1 e2
  have hm : j % 6 < 6 := Nat.mod_lt _ (by omega)
  have hj6 : j = j / 6 * 6 + j % 6 := by omega
  obtain ⟨t, ht⟩ : ∃ t, t = ts[j / 6] := ⟨_, rfl⟩
  rw [← ht] at c
  have hg : ts[j / 6]? = some t := by rw [ht]; exact List.getElem?_eq_getElem hi
  obtain ⟨q, hq⟩ : ∃ q, q = j / 6 := ⟨_, rfl⟩
  obtain ⟨r, hr⟩ : ∃ r, r = j % 6 := ⟨_, rfl⟩
  rw [← hq] at c hg hj6
  rw [← hr] at hm hj6
  clear hq hr ht hi hlt
  subst hj6
  have key := fun v hv => ksCells_get ts q t hg r v hv
  have hr6 : r < (kCells t).length := hm
  have e3 := key _ (List.getElem?_eq_getElem hr6)
  rw [hj] at e3
  obtain rfl := Option.some.inj e3
  obtain ⟨c0, c1, c2, c3, c4, c5⟩ := c
  have h6 : r = 0 ∨ r = 1 ∨ r = 2 ∨ r = 3 ∨ r = 4 ∨ r = 5 := by omega
  rw [← Nat.add_assoc]
  rcases h6 with rfl | rfl | rfl | rfl | rfl | rfl
  · exact c0
  · exact c1
  · exact c2
  · exact c3
  · exact c4
  · exact c5

set_option maxHeartbeats 4000000 in
set_option maxRecDepth 100000 in
/-- Clone: new memory that holds the same tokens. -/
theorem clone_any (v : Value) (ts : List K) (w : World) (hv : Ks w v ts) (hl : ts.length * 56 ≤ 140737488355328) :
    Calls Tryd.prog 60 #[v] w fun e w' => ∃ u, e = .returned u ∧ w'.ownsRow w.heap.size 39 6 u ts.length (ksCells ts) ∧ Below w.heap.size w w' := by
  obtain ⟨i0, hi, hz0, hz1, hz2⟩ := info_parts infoTok
  obtain ⟨ad, cap, rfl, hc1, hc2, hc3⟩ := id hv
  cases ad with
  | none =>
    have h0 : ts = [] := by
      cases ts with
      | nil => rfl
      | cons t r => obtain ⟨g, o, e, _⟩ := hc3 0 t rfl; cases e
    subst h0
    have q := eql_toks
    clear hv hc3
    go_enter Tryd.func60, Tryd.ntmps60
    go_wp2_with fail
    go_ret
    exact ⟨_, rfl, World.ownsRow_nil _ _ _ _, Below.refl _ _⟩
  | some a =>
    have q := eql_toks
    have hrow : ∀ j u, (ksCells ts)[j]? = some u → w.cell? (a.add j) = some u := by
      intro j u hj
      have hlt := (List.getElem?_eq_some_iff.1 hj).1
      rw [ksCells_length] at hlt
      obtain ⟨g, o, e, _⟩ := hc3 0 _ (List.getElem?_eq_getElem (by omega))
      injection e with e
      subst e
      rw [add_none]
      exact hv.row j u hj
    have HR := Lib.hid hrow
    obtain ⟨n, hn⟩ : ∃ n, n = ts.length := ⟨_, rfl⟩
    rw [← hn] at hl hc1 ⊢
    have Hn := Lib.hid hn
    clear hv hc3 hrow hn
    go_enter Tryd.func60, Tryd.ntmps60
    go_wp2_with (at_builtin; refine wpList_append_own _ rfl _ _ 24 rfl w.heap.size 39 i0 _ 6 56 Tryd.underlying24 hi hz0 hz1 hz2 rfl (by decide) _ _ _ rfl (World.ownsRow_made w #[] 0 (Nat.le_refl _) (Nat.zero_le _) rfl) a n cap (ksCells ts) rfl ?qc1 ?qc2 ?qc3 ?qc4 ?qc5 ?qc6 ?_)
    case qc1 => rw [ksCells_length, Hn.out]
    case qc2 => intro j u hj; exact Lib.cell?_alloc_some _ (HR.out j u hj)
    case qc3 => exact ksCells_one ts
    case qc4 => unfold maxLen; omega
    case qc5 => omega
    case qc6 => simp
    intro v' w1 hown hgrow hnil
    go_wp2_with fail
    go_ret
    exact ⟨v', rfl, hown, ((Below.refl _ w).alloc (Nat.le_refl _) _).grown hgrow (by simp) (by intro k hk; simp [Value.ownBlock] at hk; omega)⟩


/-- A bare body of new memory. -/
def BarePost (w : World) (ts : List K) (e : Ending) (w' : World) : Prop := ∃ u, e = .returned u ∧ w'.ownsRow w.heap.size 39 6 u ts.length (ksCells (Mx.bare ts)) ∧ Below w.heap.size w w'

theorem ks_bare (t : K) (r : List K) : (ksCells (t :: r)).set 5 (.bool false) = ksCells (Mx.bare (t :: r)) := rfl
theorem bare_len (l : List K) : (Mx.bare l).length = l.length := by cases l <;> rfl

set_option maxHeartbeats 2000000 in
set_option maxRecDepth 100000 in
theorem bare_any (v : Value) (ts : List K) (w : World) (hv : Ks w v ts) (hl : ts.length * 56 ≤ 140737488355328) :
    Calls Tryd.prog 38 #[v] w (BarePost w ts) := by
  obtain ⟨ad, cap, rfl, hc1, hc2, hc3⟩ := id hv
  have HV := Lib.hid hv
  have HL := Lib.hid hl
  clear hv hc3 hc1 hl
  go_enter Tryd.func38, Tryd.ntmps38
  go_wp2_with fail
  refine (clone_any _ ts _ HV.out HL.out).mono ?_
  rintro e W ⟨u, rfl, hrow, hB⟩
  rcases ts with _ | ⟨t, r⟩
  · obtain ⟨au, nu, cu, rfl⟩ : ∃ a n c, u = .slice a n c := by
      rcases hrow.2 with ⟨rfl, _⟩ | ⟨g, cap, cur, rfl, _⟩
      · exact ⟨_, _, _, rfl⟩
      · exact ⟨_, _, _, rfl⟩
    have hn0 : nu = 0 := by
      rcases hrow.2 with ⟨h, _⟩ | ⟨g, cap, cur, h, _⟩ <;> (injection h with _ h _)
    subst hn0
    have HR := Lib.hid hrow
    clear hrow
    go_wp2_with fail
    go_ret
    exact ⟨_, rfl, HR.out, hB⟩
  · obtain ⟨g, cu, rfl, hg⟩ : ∃ g c, u = .slice (some ⟨g, 0, none⟩) (r.length + 1) c ∧ w.heap.size ≤ g := by
      rcases hrow.2 with ⟨rfl, h⟩ | ⟨g, cap, cur, rfl, h, _⟩
      · cases h
      · exact ⟨_, _, rfl, h⟩
    obtain ⟨n, hn⟩ : ∃ n, n = r.length := ⟨_, rfl⟩
    have hst := (hrow.stored 5 (.bool false)).1
    rw [ks_bare] at hst
    have c5 : W.cell? ⟨g, 5, none⟩ = some (.bool t.bl) := by
      have := hrow.cells (g := g) rfl 5 (.bool t.bl) rfl
      rwa [add_none, Nat.zero_add] at this
    have f5 := hrow.frozenAt 5
    have HS := Lib.hid hst
    have HN := Lib.hid hn
    rw [← hn]
    clear hst hrow hn
    go_wp2_with fail
    go_ret
    exact ⟨_, rfl, by have := HS.out; rw [← HN.out] at this; simpa [← HN.out] using this, hB.setCell hg _⟩

set_option maxHeartbeats 2000000 in
set_option maxRecDepth 100000 in
theorem rbare_any (v : Value) (ts : List K) (w : World) (hv : Ks w v ts) (hl : ts.length * 56 ≤ 140737488355328) :
    Calls Tryd.prog 41 #[v] w (BarePost w ts) := by
  obtain ⟨i0, hi, hz0, hz1, hz2⟩ := info_parts infoTok
  obtain ⟨ad, cap, rfl, hc1, hc2, hc3⟩ := id hv
  have hrow : ∀ a, ad = some a → ∀ j u, (ksCells ts)[j]? = some u → w.cell? (a.add j) = some u := by
    rintro a rfl j u hj
    have hlt := (List.getElem?_eq_some_iff.1 hj).1
    rw [ksCells_length] at hlt
    obtain ⟨g, o, e, _⟩ := hc3 0 _ (List.getElem?_eq_getElem (by omega))
    injection e with e
    subst e
    rw [add_none]
    exact hv.row j u hj
  rcases ts with _ | ⟨t, r⟩
  · simp only [List.length_nil] at hc1
    clear hv hc3 hrow
    cases ad with
    | none =>
      go_enter Tryd.func41, Tryd.ntmps41
      go_wp2_with fail
      go_ret
      exact ⟨_, rfl, World.ownsRow_made w #[] 0 (Nat.le_refl _) (Nat.zero_le _) rfl, (Below.refl _ w).alloc (Nat.le_refl _) _⟩
    | some a =>
      go_enter Tryd.func41, Tryd.ntmps41
      go_wp2_with fail
      go_ret
      exact ⟨_, rfl, World.ownsRow_made w #[] 0 (Nat.le_refl _) (Nat.zero_le _) rfl, (Below.refl _ w).alloc (Nat.le_refl _) _⟩
  · obtain ⟨g0, o0, rfl, -⟩ := hv.cells (by simp)
    have HR := Lib.hid (hrow _ rfl)
    obtain ⟨n, hn⟩ : ∃ n, n = (t :: r).length := ⟨_, rfl⟩
    rw [← hn] at hl hc1
    have Hn := Lib.hid hn
    rw [← hn]
    clear hv hc3 hrow hn
    go_enter Tryd.func41, Tryd.ntmps41
    go_wp2_with (at_builtin; refine wpList_append_own _ rfl _ _ 24 rfl w.heap.size 39 i0 _ 6 56 Tryd.underlying24 hi hz0 hz1 hz2 rfl (by decide) _ _ _ rfl (World.ownsRow_made w #[] 0 (Nat.le_refl _) (Nat.zero_le _) rfl) ⟨g0, o0, none⟩ n cap (ksCells (t :: r)) rfl ?qc1 ?qc2 ?qc3 ?qc4 ?qc5 ?qc6 ?_)
    case qc1 => rw [ksCells_length, Hn.out]
    case qc2 => intro j u hj; exact Lib.cell?_alloc_some _ (HR.out j u hj)
    case qc3 => exact ksCells_one (t :: r)
    case qc4 => unfold maxLen; omega
    case qc5 => omega
    case qc6 => simp
    intro v' w1 hown hgrow hnil
    have hB : Below w.heap.size w w1 := ((Below.refl _ w).alloc (Nat.le_refl _) _).grown hgrow (by simp) (by intro k hk; simp [Value.ownBlock] at hk; omega)
    obtain ⟨g, cu, rfl, hg⟩ : ∃ g c, v' = .slice (some ⟨g, 0, none⟩) n c ∧ w.heap.size ≤ g := by
      rcases hown.2 with ⟨rfl, h⟩ | ⟨g, cap, cur, rfl, h, _⟩
      · rw [Hn.out] at h; cases h
      · exact ⟨_, _, rfl, h⟩
    have hst := (hown.stored 5 (.bool false)).1
    rw [ks_bare] at hst
    have c5 : w1.cell? ⟨g, 5, none⟩ = some (.bool t.bl) := by
      have := hown.cells (g := g) rfl 5 (.bool t.bl) rfl
      rwa [add_none, Nat.zero_add] at this
    have f5 := hown.frozenAt 5
    have HS := Lib.hid hst
    have hn0 : 0 < n := by rw [Hn.out]; simp
    clear hst hown
    have z1 : (0 : Int) < n := by omega
    go_wp2_with fail
    go_ret
    exact ⟨_, rfl, by rw [← Hn.out]; exact HS.out, hB.setCell hg _⟩
end Go.Proofs.YtfjbmenakcnadaaDoor
