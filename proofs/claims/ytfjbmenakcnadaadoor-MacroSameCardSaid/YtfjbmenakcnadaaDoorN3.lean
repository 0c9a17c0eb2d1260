/- What is proved: what Same tells of any two macros. -/
import Derived.Test.YtfjbmenakcnadaaDoorM14
namespace Go.Proofs.YtfjbmenakcnadaaDoor
open Go.RowKit Go.Shelf Go.WideMaps

theorem lit_ne {a b : ByteArray} (h : ¬ a = b) : (a.toList == b.toList) = false := by rw [ba_beq]; exact decide_eq_false h

set_option maxRecDepth 100000 in
set_option maxHeartbeats 2000000 in
theorem eqs_any (v u : Value) (ps qs : List ByteArray) (w : World) (hv : Sts w v ps) (hu : Sts w u qs) :
    Calls Tryd.prog 33 #[v, u] w fun e w' => e = .returned (.bool (decide (ps = qs))) ∧ Below w.heap.size w w' := by
  by_cases hl : ps.length = qs.length
  · rcases Nat.eq_zero_or_pos ps.length with h0 | hpos
    · obtain ⟨ad, cap, rfl, -, -, -⟩ := hv
      obtain ⟨ad', cap', rfl, -, -, -⟩ := hu
      rw [h0, ← hl, h0]
      refine (Any.slices_Equal_string_empty lays193 ad ad' cap 0 cap' w (by decide)).mono ?_
      rintro e w' ⟨rfl, rfl⟩
      obtain rfl := List.length_eq_zero_iff.1 h0
      obtain rfl := List.length_eq_zero_iff.1 hl.symm
      exact ⟨rfl, Below.refl _ _⟩
    · obtain ⟨g, o, cap, rfl, h1, h2, -, h3⟩ := hv.cells hpos
      obtain ⟨g', o', cap', rfl, h1', h2', -, h3'⟩ := hu.cells (hl ▸ hpos)
      unfold maxLen at h2 h2'
      have key := Any.slices_Equal_string lays193 g o ps.length cap g' o' qs.length cap' ps qs w (Nat.le_refl _) (Nat.le_refl _) (by omega) (by omega)
        (fun j hj => by rw [List.getD_eq_getElem?_getD, List.getElem?_eq_getElem hj]; exact h3 j _ (List.getElem?_eq_getElem hj))
        (fun j hj => by rw [List.getD_eq_getElem?_getD, List.getElem?_eq_getElem hj]; exact h3' j _ (List.getElem?_eq_getElem hj))
      refine key.mono ?_
      rintro e w' ⟨rfl, q, rfl⟩
      rw [List.take_length, List.take_length]
      exact ⟨rfl, below_drewN (Below.refl _ _) _⟩
  · obtain ⟨ad, cap, rfl, -, -, -⟩ := hv
    obtain ⟨ad', cap', rfl, -, -, -⟩ := hu
    rw [show decide (ps = qs) = false from decide_eq_false fun e => hl (by rw [e])]
    have z : ((ps.length : Int) != qs.length) = true := by simp; omega
    have z2 : ¬ (ps.length : Int) = qs.length := by omega
    go_enter Tryd.func33, Tryd.ntmps33
    go_wp2_with fail
    go_ret
    exact ⟨rfl, Below.refl _ _⟩

namespace Mx
def kal (t : K) : Int × ByteArray × Bool := (t.kind, t.text, t.bl)
/-- Are two bodies one? -/
def sameB (a b : List K) : Bool := decide ((bare a).map kal = (bare b).map kal)
/-- Are two macros one? -/
def same (a b : M) : Bool := decide (a.name = b.name) && (a.fn == b.fn && (a.va == b.va && (decide (a.ps = b.ps) && sameB a.body b.body)))
theorem bare_get (l : List K) (i : Nat) : (bare l)[i]? = (l[i]?).map fun t => if i = 0 then { t with bl := false } else t := by
  cases l with
  | nil => rfl
  | cons t r => cases i <;> simp [bare]
theorem bare_length (l : List K) : (bare l).length = l.length := by cases l <;> rfl
/-- Two bodies are alike so far. -/
def alikeTo (a b : List K) (k : Nat) : Prop := ∀ i, i < k → ((bare a)[i]?).map kal = ((bare b)[i]?).map kal
theorem alike_all {a b : List K} (h : a.length = b.length) (ha : alikeTo a b a.length) : sameB a b = true := by
  refine decide_eq_true (List.ext_getElem? fun i => ?_)
  rw [List.getElem?_map, List.getElem?_map]
  rcases Nat.lt_or_ge i a.length with hi | hi
  · exact ha i hi
  · rw [List.getElem?_eq_none (by rw [bare_length]; exact hi), List.getElem?_eq_none (by rw [bare_length]; omega)]
theorem alike_not {a b : List K} {i : Nat} (h : ((bare a)[i]?).map kal ≠ ((bare b)[i]?).map kal) : sameB a b = false := by
  refine decide_eq_false fun e => h ?_
  rw [← List.getElem?_map, ← List.getElem?_map, e]
theorem alike_len {a b : List K} (h : a.length ≠ b.length) : sameB a b = false := by
  refine decide_eq_false fun e => h ?_
  have := congrArg List.length e
  simpa [bare_length] using this
end Mx
instance : DecidableEq K := fun a b => decidable_of_iff (a.kind = b.kind ∧ a.text = b.text ∧ a.file = b.file ∧ a.fr = b.fr ∧ a.en = b.en ∧ a.bl = b.bl) ⟨fun h => by
  obtain ⟨h1, h2, h3, h4, h5, h6⟩ := h; cases a; cases b; simp_all, fun h => by subst h; simp⟩

set_option maxRecDepth 100000 in
set_option maxHeartbeats 2000000 in
theorem sameBody_any (v u : Value) (ts us : List K) (w : World) (hv : Ks w v ts) (hu : Ks w u us) :
    Calls Tryd.prog 34 #[v, u] w fun e w' => e = .returned (.bool (Mx.sameB ts us)) ∧ Below w.heap.size w w' := by
  obtain ⟨ad, cap, rfl, h1, h2, h3⟩ := id hv
  obtain ⟨ad', cap', rfl, h1', h2', h3'⟩ := id hu
  unfold maxLen at h2 h2'
  by_cases hl : ts.length = us.length
  · obtain ⟨res, hres⟩ : ∃ res, res = Mx.sameB ts us := ⟨_, rfl⟩
    rw [← hres]
    obtain ⟨n, hn⟩ : ∃ n, n = ts.length := ⟨_, rfl⟩
    rw [← hl, ← hn]
    rw [← hl, ← hn] at h1'
    rw [← hn] at h1
    have Hn := Lib.hid hn
    have Hn' := Lib.hid (hn.trans hl)
    have H3 := Lib.hid h3
    have H3' := Lib.hid h3'
    have HRES := Lib.hid hres
    clear hv hu h3 h3' hn hl hres
    go_enter Tryd.func34, Tryd.ntmps34
    go_wp2_with fail
    go_loopw [14] (fun i wr => ∃ k : Nat, i = .int .i64 k ∧ k ≤ n ∧ Below w.heap.size w wr ∧ Mx.alikeTo ts us k) (fun i _ => n - (intOf i).toNat)
    case atStart => exact ⟨0, rfl, Nat.zero_le _, Below.refl _ _, fun i hi => absurd hi (Nat.not_lt_zero _)⟩
    case round =>
      obtain ⟨k, rfl, hk, hB, hal⟩ := hrel
      by_cases hlt : k < n
      · obtain ⟨t, ht⟩ : ∃ t, ts[k]? = some t := ⟨_, List.getElem?_eq_getElem (by rw [← Hn.out]; exact hlt)⟩
        obtain ⟨s, hs⟩ : ∃ s, us[k]? = some s := ⟨_, List.getElem?_eq_getElem (by rw [← Hn'.out]; exact hlt)⟩
        obtain ⟨g, o, e1, ha⟩ := H3.out k t ht
        obtain ⟨g', o', e1', ha'⟩ := H3'.out k s hs
        subst e1 e1'
        have hgl := lt_of_cell ha.1
        have hgl' := lt_of_cell ha'.1
        obtain ⟨a0, a1, a2, a3, a4, a5⟩ := ha.below hB hgl
        obtain ⟨b0, b1, b2, b3, b4, b5⟩ := ha'.below hB hgl'
        have hg1 := lt_of_cell a0
        have hg2 := lt_of_cell b0
        have y1 : (0 : Int) ≤ k := by omega
        have y2 : (k : Int) < n := by omega
        have ga : ((Mx.bare ts)[k]?).map Mx.kal = some (t.kind, t.text, if k = 0 then false else t.bl) := by
          rw [Mx.bare_get, ht]; by_cases h0 : k = 0 <;> simp [Mx.kal, h0]
        have gb : ((Mx.bare us)[k]?).map Mx.kal = some (s.kind, s.text, if k = 0 then false else s.bl) := by
          rw [Mx.bare_get, hs]; by_cases h0 : k = 0 <;> simp [Mx.kal, h0]
        have GA := Lib.hid ga
        have GB := Lib.hid gb
        have HAL := Lib.hid hal
        clear ga gb ht hs hal ha ha'
        have hBx := hB.alloc hB.size (.cells #[.int .i64 t.kind, .string t.text, .int .i64 t.file, .int .i64 t.fr, .int .i64 t.en, .bool t.bl] 39)
        have HBX := Lib.hid hBx
        clear hBx
        obtain ⟨kd, tx, tf, tfr, ten, tbl⟩ := t
        obtain ⟨kd', tx', tf', tfr', ten', tbl'⟩ := s
        dsimp only at a0 a1 a2 a3 a4 a5 b0 b1 b2 b3 b4 b5 HBX GA GB
        by_cases hkd : kd = kd'
        · subst hkd
          have t3 : (kd != kd) = false := by simp
          by_cases htx : tx = tx'
          · subst htx
            have t4 : (tx.toList != tx.toList) = false := by simp
            rcases Nat.eq_zero_or_pos k with rfl | hk0
            · have HN1 := Lib.hid (show Mx.alikeTo ts us 1 from fun i hi => by
                obtain rfl : i = 0 := by omega
                rw [GA.out, GB.out]; simp)
              simp only [Nat.zero_mul, Nat.add_zero] at a0 a1 a2 a3 a4 a5 b0 b1 b2 b3 b4 b5
              go_wp2_with fail
              go_quiet (fail)
              go_wp2_with fail
              go_quiet (fail)
              go_wp2_with fail
              go_roundw
              case rel => exact ⟨1, by go_num, by omega, below_drewN HBX.out _, HN1.out⟩
              case measure => simp [intOf]; omega
            · have y3 : (0 : Int) < k := by omega
              by_cases hbl : tbl = tbl'
              · subst hbl
                have t5 : (tbl != tbl) = false := by simp
                have HN1 := Lib.hid (show Mx.alikeTo ts us (k + 1) from fun i hi => by
                  rcases Nat.lt_or_ge i k with h | h
                  · exact HAL.out i h
                  · obtain rfl : i = k := by omega
                    rw [GA.out, GB.out])
                go_wp2_with fail
                go_quiet (fail)
                go_wp2_with fail
                go_quiet (fail)
                go_wp2_with fail
                go_roundw
                case rel => exact ⟨k + 1, by go_num, by omega, below_drewN HBX.out _, HN1.out⟩
                case measure => simp [intOf]; omega
              · have HE := Lib.hid (show res = false by rw [HRES.out]; exact Mx.alike_not (i := k) (by rw [GA.out, GB.out]; simp [hbl, Nat.pos_iff_ne_zero.1 hk0]))
                cases tbl <;> cases tbl'
                all_goals
                  first
                  | exact absurd rfl hbl
                  | (clear hbl
                     go_wp2_with fail
                     go_quiet (fail)
                     go_wp2_with fail
                     go_quiet (fail)
                     go_wp2_with fail
                     go_ret
                     first
                     | exact ⟨by rw [HE.out]; rfl, below_drewN HBX.out _⟩
                     | exact ⟨by rw [HE.out]; rfl, below_drewN (below_drewN HBX.out _) _⟩)
          · have HE := Lib.hid (show res = false by rw [HRES.out]; exact Mx.alike_not (i := k) (by rw [GA.out, GB.out]; simp [htx]))
            have t6 := lit_ne htx
            have t4 : (tx.toList != tx'.toList) = true := by simpa using t6
            clear htx
            go_wp2_with fail
            go_quiet (fail)
            go_wp2_with fail
            go_ret
            exact ⟨by rw [HE.out]; rfl, below_drewN HBX.out _⟩
        · have HE := Lib.hid (show res = false by rw [HRES.out]; exact Mx.alike_not (i := k) (by rw [GA.out, GB.out]; simp [hkd]))
          have t3 : (kd != kd') = true := by simpa using hkd
          clear hkd
          go_wp2_with fail
          go_quiet (fail)
          go_wp2_with fail
          go_ret
          exact ⟨by rw [HE.out]; rfl, below_drewN HBX.out _⟩
      · have HE := Lib.hid (show res = true by
          rw [HRES.out]
          exact Mx.alike_all (Hn.out.symm.trans Hn'.out) (by rw [← Hn.out]; rwa [show n = k by omega]))
        have y3 : ¬ (k : Int) < n := by omega
        clear hal
        go_wp2_with fail
        go_ret
        exact ⟨by rw [HE.out]; rfl, hB⟩
  · obtain ⟨n, hn⟩ : ∃ n, n = ts.length := ⟨_, rfl⟩
    obtain ⟨m, hm⟩ : ∃ m, m = us.length := ⟨_, rfl⟩
    rw [Mx.alike_len hl, ← hn, ← hm]
    rw [← hn, ← hm] at hl
    have z : ((n : Int) != m) = true := by simp; omega
    have z2 : ¬ (n : Int) = m := by omega
    clear hv hu h3 h3' hn hm
    go_enter Tryd.func34, Tryd.ntmps34
    go_wp2_with fail
    go_ret
    exact ⟨rfl, Below.refl _ _⟩
end Go.Proofs.YtfjbmenakcnadaaDoor
