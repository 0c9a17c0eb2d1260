/- What is proved: where a name stands, as the document's own Param tells it. -/
import Derived.Test.YtfjbmenakcnadaaDoorM13
namespace Go.Proofs.YtfjbmenakcnadaaDoor
open Go.RowKit Go.Shelf Go.WideMaps

/-- A slice value whose elements are these texts. -/
def Sts (W : World) (v : Value) (ps : List ByteArray) : Prop :=
  ∃ ad cap, v = .slice ad ps.length cap ∧ ps.length ≤ cap ∧ cap ≤ maxLen ∧ ∀ i s, ps[i]? = some s → ∃ g o, ad = some ⟨g, o, none⟩ ∧ W.cell? ⟨g, o + i, none⟩ = some (.string s)
theorem Sts.below {W W' : World} {v : Value} {ps : List ByteArray} (h : Sts W v ps) (hb : Below W.heap.size W W') : Sts W' v ps := by
  obtain ⟨ad, cap, rfl, h1, h2, h3⟩ := h
  refine ⟨ad, cap, rfl, h1, h2, fun i s hs => ?_⟩
  obtain ⟨g, o, e, c⟩ := h3 i s hs
  exact ⟨g, o, e, (hb.cell (p := ⟨g, o + i, none⟩) (lt_of_cell c)).trans c⟩
theorem Sts.of_row {W : World} {base n : Nat} {v : Value} {ps : List ByteArray} (h : W.ownsRow base 9 1 v n (strCells ps)) : Sts W v ps := by
  obtain rfl : n = ps.length := by have := h.1; rw [strCells_length] at this; omega
  have hc := fun g => h.cells (g := g)
  rcases h.2 with ⟨rfl, h0⟩ | ⟨g, cap, cur, rfl, _, _, h1, h2, _, _⟩
  · refine ⟨none, 0, by rw [h0], by omega, Nat.zero_le _, fun i x hx => ?_⟩
    rw [List.length_eq_zero_iff.1 h0] at hx
    simp at hx
  · refine ⟨_, cap, rfl, h1, h2, fun i t ht => ⟨g, 0, rfl, ?_⟩⟩
    have := hc g rfl i _ (strCells_get ht)
    rwa [add_none] at this
theorem Sts.cells {W : World} {v : Value} {ps : List ByteArray} (h : Sts W v ps) (hl : 0 < ps.length) :
    ∃ g o cap, v = .slice (some ⟨g, o, none⟩) ps.length cap ∧ ps.length ≤ cap ∧ cap ≤ maxLen ∧ g < W.heap.size ∧ ∀ i s, ps[i]? = some s → W.cell? ⟨g, o + i, none⟩ = some (.string s) := by
  obtain ⟨ad, cap, rfl, h1, h2, h3⟩ := h
  obtain ⟨g, o, rfl, c0⟩ := h3 0 _ (List.getElem?_eq_getElem hl)
  refine ⟨g, o, cap, rfl, h1, h2, lt_of_cell c0, fun i s hs => ?_⟩
  obtain ⟨g', o', e, c⟩ := h3 i s hs
  injection e with e
  injection e with e1 e2
  subst e1 e2
  exact c

namespace Mx
def pidx (ps : List ByteArray) (nm : ByteArray) : Int := if has ps nm then ((ps.findIdx fun p => decide (p = nm) : Nat) : Int) else -1
/-- A parameter's place, as the document's own Param tells it. -/
def rpidx (ps : List ByteArray) (va : Bool) (nm : ByteArray) : Int := if va && decide (nm = VA) then ps.length else pidx ps nm
theorem pidx_hit {ps : List ByteArray} {nm : ByteArray} {k : Nat} (h : ps[k]? = some nm) (hn : has (ps.take k) nm = false) : pidx ps nm = k := by
  have hh : has ps nm = true := (has_iff _ _).2 (List.mem_of_getElem? h)
  obtain ⟨hk, e⟩ := List.getElem?_eq_some_iff.1 h
  have : ps.findIdx (fun p => decide (p = nm)) = k := by
    rw [List.findIdx_eq hk]
    refine ⟨by simp [e], fun j hj => ?_⟩
    have hm : ps[j] ∈ ps.take k := by
      rw [List.mem_take_iff_getElem]
      exact ⟨j, by omega, rfl⟩
    refine decide_eq_false fun e' => ?_
    rw [e'] at hm
    rw [(has_iff _ _).2 hm] at hn
    cases hn
  rw [pidx, if_pos hh, this]
theorem pidx_miss {ps : List ByteArray} {nm : ByteArray} (h : has ps nm = false) : pidx ps nm = -1 := by rw [pidx, h]; rfl
theorem pidx_neg (ps : List ByteArray) (nm : ByteArray) : (pidx ps nm < 0) ↔ has ps nm = false := by
  unfold pidx
  cases has ps nm with
  | true => simp
  | false => simp
theorem rpidx_known (ps : List ByteArray) (va : Bool) (t : K) (hk : t.kind = 1) : (rpidx ps va t.text < 0) ↔ known ps va t = false := by
  unfold rpidx known
  by_cases h : (va && decide (t.text = VA)) = true
  · rw [if_pos h, h, hk]; simp
  · rw [if_neg h, pidx_neg, hk]; simp at h ⊢
    cases has ps t.text <;> simp_all
end Mx

set_option maxRecDepth 100000 in
set_option maxHeartbeats 2000000 in
theorem rparam_any (nm name : ByteArray) (fn va : Bool) (pv bv : Value) (ps : List ByteArray) (w : World) (hp : Sts w pv ps) (hb : ∃ a m c, bv = .slice a m c) :
    Calls Tryd.prog 20 #[.agg #[.string nm, .bool fn, pv, .bool va, bv], .string name] w fun e w' => e = .returned (.int .i64 (Mx.rpidx ps va name)) ∧ Below w.heap.size w w' := by
  obtain ⟨ba, bm, bc, rfl⟩ := hb
  obtain ⟨ad, cap, rfl, h1, h2, h3⟩ := id hp
  obtain ⟨m, hm⟩ : ∃ m, m = ps.length := ⟨_, rfl⟩
  rw [← hm] at h1 ⊢
  unfold maxLen at h2
  have hB : Below w.heap.size w (w.alloc (.cells #[.string nm, .bool fn, .slice ad m cap, .bool va, .slice ba bm bc] 26)) := (Below.refl _ w).alloc (Nat.le_refl _) _
  have hblk := heap_alloc_new w (.cells #[.string nm, .bool fn, .slice ad m cap, .bool va, .slice ba bm bc] 26)
  have HB := Lib.hid hB
  have HP := Lib.hid hp
  have Hm := Lib.hid hm
  have HBLK := Lib.hid hblk
  clear hp hm h3 hB hblk
  by_cases hv : (va && decide (name = Mx.VA)) = true
  · have hr : Mx.rpidx ps va name = m := by rw [Mx.rpidx, if_pos hv, Hm.out]
    rw [hr]
    simp only [Bool.and_eq_true, decide_eq_true_iff] at hv
    obtain ⟨rfl, hv⟩ := hv
    have t1 : (name.toList == [95, 95, 86, 65, 95, 65, 82, 71, 83, 95, 95]) = true := lit_yes hv
    clear hr hv
    go_enter Tryd.func20, Tryd.ntmps20
    go_wp2_with fail
    go_ret
    exact ⟨by first | rfl | trivial, HB.out⟩
  · have hr : Mx.rpidx ps va name = Mx.pidx ps name := by rw [Mx.rpidx, if_neg hv]
    rw [hr]
    have HR := Lib.hid hr
    have hva : va = false ∨ (va = true ∧ (name.toList == [95, 95, 86, 65, 95, 65, 82, 71, 83, 95, 95]) = false) := by
      cases va with
      | false => exact .inl rfl
      | true => exact .inr ⟨rfl, lit_no (show ¬ name = Mx.VA by simpa using hv)⟩
    clear hr hv
    obtain ⟨X, hX⟩ : ∃ X, X = Mx.pidx ps name := ⟨_, rfl⟩
    rw [← hX]
    have HXx := Lib.hid hX
    clear hX HR
    rcases hva with rfl | ⟨rfl, t1⟩
    all_goals
      go_enter Tryd.func20, Tryd.ntmps20
      go_wp2_with fail
      go_loopw [5] (fun i wr => ∃ k : Nat, i = .int .i64 k ∧ k ≤ m ∧ wr = w.alloc (.cells #[.string nm, .bool fn, .slice ad m cap, .bool _, .slice ba bm bc] 26) ∧ Mx.has (ps.take k) name = false) (fun i _ => m - (intOf i).toNat)
      case atStart => exact ⟨0, rfl, Nat.zero_le _, rfl, rfl⟩
      case round =>
        obtain ⟨k, rfl, hk, rfl, hno⟩ := hrel
        by_cases hkm : k < m
        · obtain ⟨x, hx⟩ : ∃ x, ps[k]? = some x := ⟨_, List.getElem?_eq_getElem (by rw [← Hm.out]; exact hkm)⟩
          obtain ⟨g, o, cap', hv', -, -, hgl, hcs⟩ := (HP.out).cells (by rw [← Hm.out]; omega)
          injection hv' with v1 v2 v3
          subst v1 v3
          have d0 := hcs k x hx
          have x1 : (0 : Int) ≤ k := by omega
          have x2 : (k : Int) < m := by omega
          by_cases hxe : x = name
          · have t5 : (x.toList == name.toList) = true := by rw [ba_beq]; exact decide_eq_true hxe
            have hX2 : X = k := by rw [HXx.out]; exact Mx.pidx_hit (by rw [hx, hxe]) hno
            subst hX2
            clear hno hx hxe hcs
            go_wp2_with fail
            go_ret
            exact ⟨by first | rfl | trivial, HB.out⟩
          · have t5 : (x.toList == name.toList) = false := by rw [ba_beq]; exact decide_eq_false hxe
            have hno2 : Mx.has (ps.take (k + 1)) name = false := by
              rw [List.take_add_one, hx]; simpa [Mx.has, hxe] using hno
            have HNO := Lib.hid hno2
            clear hno hno2 hx hxe hcs
            go_wp2_with fail
            go_roundw
            case rel => exact ⟨k + 1, by go_num, by omega, by first | rfl | trivial, HNO.out⟩
            case measure => simp [intOf]; omega
        · have hX2 : X = -1 := by rw [HXx.out]; exact Mx.pidx_miss (by rwa [List.take_of_length_le (by rw [← Hm.out]; omega)] at hno)
          subst hX2
          have x2 : ¬ (k : Int) < m := by omega
          clear hno
          go_wp2_with fail
          go_ret
          exact ⟨by first | rfl | trivial, HB.out⟩
end Go.Proofs.YtfjbmenakcnadaaDoor
