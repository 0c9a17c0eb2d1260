/- What is proved: what the document's own Alike tells of any two lists of tokens. (and what stands with it) -/
import Derived.Test.YtfjbmenakcnadaaDoorGl

/- What is proved: what the document's own Alike tells of any two lists of tokens. -/
namespace Go.Proofs.YtfjbmenakcnadaaDoor
open Go.RowKit Go.Shelf Go.WideMaps

namespace Mx
def kTo (a b : List K) (k : Nat) : Prop := ∀ i, i < k → (a[i]?).map kal = (b[i]?).map kal
theorem kAll {a b : List K} (h : a.length = b.length) (ha : kTo a b a.length) : decide (a.map kal = b.map kal) = true := by
  refine decide_eq_true (List.ext_getElem? fun i => ?_)
  rw [List.getElem?_map, List.getElem?_map]
  rcases Nat.lt_or_ge i a.length with hi | hi
  · exact ha i hi
  · rw [List.getElem?_eq_none hi, List.getElem?_eq_none (by omega)]
theorem kNot {a b : List K} {i : Nat} (h : (a[i]?).map kal ≠ (b[i]?).map kal) : decide (a.map kal = b.map kal) = false := by
  refine decide_eq_false fun e => h ?_
  rw [← List.getElem?_map, ← List.getElem?_map, e]
theorem kLen {a b : List K} (h : a.length ≠ b.length) : decide (a.map kal = b.map kal) = false := by
  refine decide_eq_false fun e => h ?_
  have := congrArg List.length e
  simpa using this
end Mx

set_option maxRecDepth 100000 in
set_option maxHeartbeats 4000000 in
theorem kalike_any (v u : Value) (ts us : List K) (w : World) (hv : Ks w v ts) (hu : Ks w u us) :
    Calls Tryd.prog 40 #[v, u] w fun e w' => e = .returned (.bool (decide (ts.map Mx.kal = us.map Mx.kal))) ∧ Below w.heap.size w w' := by
  obtain ⟨ad, cap, rfl, h1, h2, h3⟩ := id hv
  obtain ⟨ad', cap', rfl, h1', h2', h3'⟩ := id hu
  unfold maxLen at h2 h2'
  by_cases hl : ts.length = us.length
  · obtain ⟨res, hres⟩ : ∃ res, res = decide (ts.map Mx.kal = us.map Mx.kal) := ⟨_, rfl⟩
    rw [← hres]
    obtain ⟨n, hn⟩ : ∃ n, n = ts.length := ⟨_, rfl⟩
    rw [← hl, ← hn]
    rw [← hl, ← hn] at h1'
    rw [← hn] at h1
    have Hn := Lib.hid hn
    have Hn' := Lib.hid (hn.trans hl)
    have H3 := Lib.hid h3
    have H3' := Lib.hid h3'
    have HRES := Lib.hid hres
    clear hv hu h3 h3' hn hl hres
    go_enter Tryd.func40, Tryd.ntmps40
    go_wp2_with fail
    go_loopw [5] (fun i wr => ∃ k : Nat, i = .int .i64 k ∧ k ≤ n ∧ Below w.heap.size w wr ∧ Mx.kTo ts us k) (fun i _ => n - (intOf i).toNat)
    case atStart => exact ⟨0, rfl, Nat.zero_le _, Below.refl _ _, fun i hi => absurd hi (Nat.not_lt_zero _)⟩
    case round =>
      obtain ⟨k, rfl, hk, hB, hal⟩ := hrel
      by_cases hlt : k < n
      · obtain ⟨t, ht⟩ : ∃ t, ts[k]? = some t := ⟨_, List.getElem?_eq_getElem (by rw [← Hn.out]; exact hlt)⟩
        obtain ⟨s, hs⟩ : ∃ s, us[k]? = some s := ⟨_, List.getElem?_eq_getElem (by rw [← Hn'.out]; exact hlt)⟩
        obtain ⟨g, o, e1, ha⟩ := H3.out k t ht
        obtain ⟨g', o', e1', ha'⟩ := H3'.out k s hs
        subst e1 e1'
        have hgl := lt_of_cell ha.1
        have hgl' := lt_of_cell ha'.1
        obtain ⟨a0, a1, -, -, -, a5⟩ := ha.below hB hgl
        obtain ⟨b0, b1, -, -, -, b5⟩ := ha'.below hB hgl'
        have y1 : (0 : Int) ≤ k := by omega
        have y2 : (k : Int) < n := by omega
        have GA := Lib.hid (show (ts[k]?).map Mx.kal = some (t.kind, t.text, t.bl) by rw [ht]; rfl)
        have GB := Lib.hid (show (us[k]?).map Mx.kal = some (s.kind, s.text, s.bl) by rw [hs]; rfl)
        have HAL := Lib.hid hal
        clear ht hs hal ha ha'
        obtain ⟨kd, tx, tf, tfr, ten, tbl⟩ := t
        obtain ⟨kd', tx', tf', tfr', ten', tbl'⟩ := s
        dsimp only at a0 a1 a5 b0 b1 b5 GA GB
        by_cases hkd : kd = kd'
        · subst hkd
          have t3 : (kd != kd) = false := by simp
          by_cases htx : tx = tx'
          · subst htx
            have t4 : (tx.toList != tx.toList) = false := by simp
            by_cases hbl : tbl = tbl'
            · subst hbl
              have t5 : (tbl != tbl) = false := by simp
              have HN1 := Lib.hid (show Mx.kTo ts us (k + 1) from fun i hi => by
                rcases Nat.lt_or_ge i k with h | h
                · exact HAL.out i h
                · obtain rfl : i = k := by omega
                  rw [GA.out, GB.out])
              go_wp2_with fail
              go_quiet (fail)
              go_wp2_with fail
              go_roundw
              case rel => exact ⟨k + 1, by go_num, by omega, below_drewN hB _, HN1.out⟩
              case measure => simp [intOf]; omega
            · have HE := Lib.hid (show res = false by rw [HRES.out]; exact Mx.kNot (i := k) (by rw [GA.out, GB.out]; simp [hbl]))
              cases tbl <;> cases tbl'
              all_goals
                first
                | exact absurd rfl hbl
                | (clear hbl
                   go_wp2_with fail
                   go_quiet (fail)
                   go_wp2_with fail
                   go_ret
                   exact ⟨by rw [HE.out]; rfl, below_drewN hB _⟩)
          · have HE := Lib.hid (show res = false by rw [HRES.out]; exact Mx.kNot (i := k) (by rw [GA.out, GB.out]; simp [htx]))
            have t6 := lit_ne htx
            have t4 : (tx.toList != tx'.toList) = true := by simpa using t6
            clear htx
            go_wp2_with fail
            go_quiet (fail)
            go_wp2_with fail
            go_ret
            exact ⟨by rw [HE.out]; rfl, below_drewN hB _⟩
        · have HE := Lib.hid (show res = false by rw [HRES.out]; exact Mx.kNot (i := k) (by rw [GA.out, GB.out]; simp [hkd]))
          have t3 : (kd != kd') = true := by simpa using hkd
          clear hkd
          go_wp2_with fail
          go_quiet (fail)
          go_wp2_with fail
          go_ret
          exact ⟨by rw [HE.out]; rfl, below_drewN hB _⟩
      · have HE := Lib.hid (show res = true by
          rw [HRES.out]
          exact Mx.kAll (Hn.out.symm.trans Hn'.out) (by rw [← Hn.out]; rwa [show n = k by omega]))
        have y3 : ¬ (k : Int) < n := by omega
        clear hal
        go_wp2_with fail
        go_ret
        exact ⟨by rw [HE.out]; rfl, hB⟩
  · obtain ⟨n, hn⟩ : ∃ n, n = ts.length := ⟨_, rfl⟩
    obtain ⟨m, hm⟩ : ∃ m, m = us.length := ⟨_, rfl⟩
    rw [Mx.kLen hl, ← hn, ← hm]
    rw [← hn, ← hm] at hl
    have z : ((n : Int) != m) = true := by simp; omega
    have z2 : ¬ (n : Int) = m := by omega
    clear hv hu h3 h3' hn hm
    go_enter Tryd.func40, Tryd.ntmps40
    go_wp2_with fail
    go_ret
    exact ⟨rfl, Below.refl _ _⟩
end Go.Proofs.YtfjbmenakcnadaaDoor
