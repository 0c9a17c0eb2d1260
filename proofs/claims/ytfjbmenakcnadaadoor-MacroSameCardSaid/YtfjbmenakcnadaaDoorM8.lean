/- What is proved: brackets reads what stands behind the name. -/
import Derived.Test.YtfjbmenakcnadaaDoorM7
namespace Go.Proofs.YtfjbmenakcnadaaDoor
open Go.RowKit Go.Shelf Go.WideMaps

def BrPost (base R mb : Nat) (nm : ByteArray) (bv : Value) (w : World) (res : Except Int (Bool × List ByteArray × Bool × List K)) (e : Ending) (w' : World) : Prop :=
  (∃ err, res = .error err ∧ e = thrown err ∧ Below base w w') ∨ ∃ fn ps va l, res = .ok (fn, ps, va, l) ∧ e = .returned (.tuple #[]) ∧ ∃ pv lv, Rd w' base R mb nm fn pv ps va bv lv l ∧ Below base w w'

set_option maxRecDepth 100000 in
set_option maxHeartbeats 2000000 in
theorem brackets_any (base R mb : Nat) (nm : ByteArray) (pv bv lv : Value) (r : List K) (w : World)
    (h : Rd w base R mb nm false pv [] false bv lv r) (hx : ∀ t ∈ r, t.text.size ≤ maxLen) (hl : r.length * 56 ≤ 140737488355328) :
    Calls Tryd.prog 53 #[.pointer (some ⟨R, 0, none⟩)] w (BrPost base R mb nm bv w (Mx.brack r)) := by
  obtain ⟨res, hres⟩ : ∃ res, res = Mx.brack r := ⟨_, rfl⟩
  rw [← hres]
  have hbR := h.hR
  have f1 := h.froz 1
  have f5 := h.froz 5
  have c1 := h.c1
  have c5 := h.c5
  have hRl := h.ltR
  rcases r with _ | ⟨u, r⟩
  · obtain ⟨g, o, cap, rfl, h1, h2, hg, -⟩ := id h.lf
    simp only [List.length_nil] at c5 h1
    go_enter Tryd.func53, Tryd.ntmps53
    go_wp2_with fail
    refine bodyPost_ret (results_none rfl _ _ _) rfl ?_
    exact .inr ⟨_, _, _, _, hres, rfl, pv, _, h, Below.refl _ _⟩
  · obtain ⟨g, o, cap, rfl, hc1, hc2, hg, -⟩ := id h.lf
    have ku := h.tok (i := 0) rfl
    have hgR : ¬ g = R := by omega
    have hRg : ¬ R = g := by omega
    have ks := msign_any u Mx.LP
    obtain ⟨a0, a1, a2, a3, a4, a5⟩ := ku
    simp only [Nat.zero_mul, Nat.add_zero] at a0 a1 a2 a3 a4 a5
    simp only [List.length_cons] at c5 hc1 hl
    obtain ⟨n, hn⟩ : ∃ n, n = r.length := ⟨_, rfl⟩
    rw [← hn] at c5 hc1 hl
    have HN := Lib.hid hn
    have HH := Lib.hid h
    have HX := Lib.hid hx
    have HRES := Lib.hid hres
    clear hn h hx hres
    cases hbl : u.bl with
    | true =>
      rw [hbl] at a5
      go_enter Tryd.func53, Tryd.ntmps53
      go_wp2_with fail
      refine bodyPost_ret (results_none rfl _ _ _) rfl ?_
      exact .inr ⟨_, _, _, _, by rw [HRES.out]; simp [Mx.brack, hbl], rfl, pv, _, HH.out, Below.refl _ _⟩
    | false =>
      rw [hbl] at a5
      cases hlp : Mx.isP u Mx.LP with
      | false =>
        rw [hlp] at ks
        simp only [kAgg, hbl] at ks
        have HE0 : res = .error 62 := by rw [HRES.out]; simp [Mx.brack, hbl, hlp]
        have HE := Lib.hid HE0
        clear HE0
        clear hbl hlp
        go_enter Tryd.func53, Tryd.ntmps53
        go_wp2_with fail
        refine (ks _).mono ?_
        rintro e W1 ⟨rfl, hB⟩
        go_wp2_with fail
        refine (must_no 62 _).mono ?_
        rintro e W2 ⟨rfl, hW⟩
        subst hW
        exact ⟨rfl, .inl ⟨62, HE.out, rfl, hB.mono HH.out.big⟩⟩
      | true =>
        rw [hlp] at ks
        simp only [kAgg, hbl] at ks
        go_enter Tryd.func53, Tryd.ntmps53
        go_wp2_with fail
        refine (ks _).mono ?_
        rintro e W1 ⟨rfl, hB⟩
        have h1 := HH.out.keep hB
        replace hB := hB.mono HH.out.big
        clear c1 c5 a0 a1 a2 a3 a4 a5 f1 f5 hRl
        go_wp2_with fail
        refine (must_ok 62 _).mono ?_
        rintro e W2 ⟨rfl, hW⟩
        subst hW
        have c1 := h1.c1
        have f1 := h1.froz 1
        have f5 := h1.froz 5
        have c5 := h1.c5
        have hRl := h1.ltR
        simp only [List.length_cons, ← HN.out] at c5
        rcases r with _ | ⟨c, r⟩
        · obtain rfl : n = 0 := HN.out
          have HE0 : res = .error 61 := by rw [HRES.out]; simp [Mx.brack, hbl, hlp]
          have HE := Lib.hid HE0
          clear HE0
          clear hbl hlp
          obtain ⟨d, rfl⟩ : ∃ d, cap = d + 1 := ⟨cap - 1, by omega⟩
          rcases Decidable.em (d = 0) with rfl | hd
          · have h2 := (h1.setFn true).setLeft (Lf.tl (n := 0) (h1.setFn true).lf 0 (by omega))
            go_wp2_with fail
            refine (list_any base R mb nm true pv [] bv _ [] 0 _ h2 (by simp) (by simp) (by omega)).mono ?_
            rintro e W3 (⟨-, rfl, hB3⟩ | ⟨ps, va, l, he, -⟩)
            · exact ⟨rfl, .inl ⟨61, HE.out, rfl, ((hB.setCell hbR _).setCell hbR _).trans hB3⟩⟩
            · cases he
          · have h2 := (h1.setFn true).setLeft (Lf.tl (n := 0) (h1.setFn true).lf 6 (by omega))
            go_wp2_with fail
            refine (list_any base R mb nm true pv [] bv _ [] 0 _ h2 (by simp) (by simp) (by omega)).mono ?_
            rintro e W3 (⟨-, rfl, hB3⟩ | ⟨ps, va, l, he, -⟩)
            · exact ⟨rfl, .inl ⟨61, HE.out, rfl, ((hB.setCell hbR _).setCell hbR _).trans hB3⟩⟩
            · cases he
        · obtain ⟨m, hm⟩ : ∃ m, m = r.length := ⟨_, rfl⟩
          obtain rfl : n = m + 1 := by rw [HN.out, hm]; rfl
          obtain ⟨d, rfl⟩ : ∃ d, cap = d + 2 := ⟨cap - 2, by omega⟩
          have HB56 := Lib.hid (show (m + 1) * 56 ≤ 140737488355328 from Nat.le_trans (Nat.mul_le_mul_right 56 (Nat.le_succ _)) hl)
          have HBM := Lib.hid (show ([] : List ByteArray).length + (c :: r).length ≤ m + 1 by simp [← hm])
          have HM := Lib.hid hm
          clear hm
          have kc := h1.tok (i := 1) rfl
          obtain ⟨b0, b1, b2, b3, b4, b5⟩ := kc
          simp only [Nat.one_mul] at b0 b1 b2 b3 b4 b5
          have h2 := (h1.setFn true).setLeft (Lf.tl (n := m + 1) (cap := d + 2) (by rw [HM.out]; exact (h1.setFn true).lf) 6 (by omega))
          simp only [show d + 2 - 1 = d + 1 from rfl] at h2
          have kq := msign_any c Mx.RP
          have HX1 : ∀ t ∈ c :: r, t.text.size ≤ maxLen := fun t ht => HX.out t (List.mem_cons_of_mem _ ht)
          have HX2 := Lib.hid HX1
          have hHB := Lib.hid ((hB.setCell (p := ⟨R, 1, none⟩) hbR (.bool true)).setCell (p := ⟨R, 5, none⟩) hbR (.slice (some ⟨g, o + 6, none⟩) (m + 1) (d + 1)))
          clear HX1 HX hB
          cases hrp : Mx.isP c Mx.RP with
          | true =>
            rw [hrp] at kq
            have HE0 : res = .ok (true, [], false, r) := by rw [HRES.out]; simp [Mx.brack, hbl, hlp, hrp]
            have HE := Lib.hid HE0
            clear HE0 hbl hlp hrp
            go_wp2_with fail
            refine (kq _).mono ?_
            rintro e W3 ⟨rfl, hB3⟩
            have h3 := h2.keep hB3
            have hB' := hHB.out.trans (hB3.mono h2.big)
            have c5 := h3.c5
            have f5 := h3.froz 5
            have hRl := h3.ltR
            clear b0 b1 b2 b3 b4 b5
            rcases Decidable.em (d = 0) with rfl | hd
            · obtain rfl : m = 0 := by omega
              have hL := h3.setLeft (Lf.tl (n := 0) (by simpa [← HM.out] using h3.lf) 0 (by omega))
              go_wp2_with fail
              refine bodyPost_ret (results_none rfl _ _ _) rfl ?_
              exact .inr ⟨_, _, _, _, HE.out, rfl, pv, _, hL, hB'.setCell hbR _⟩
            · have hL := h3.setLeft (Lf.tl (n := m) h3.lf 6 (by omega))
              go_wp2_with fail
              refine bodyPost_ret (results_none rfl _ _ _) rfl ?_
              exact .inr ⟨_, _, _, _, HE.out, rfl, pv, _, hL, hB'.setCell hbR _⟩
          | false =>
            rw [hrp] at kq
            have HE0 : Mx.plist [] (c :: r) = none → res = .error 61 := fun h => by rw [HRES.out]; simp [Mx.brack, hbl, hlp, hrp, h]
            have HE1 : ∀ ps va l, Mx.plist [] (c :: r) = some (ps, va, l) → res = .ok (true, ps, va, l) := fun ps va l h => by rw [HRES.out]; simp [Mx.brack, hbl, hlp, hrp, h]
            have HE := Lib.hid HE0
            have HF := Lib.hid HE1
            clear HE1
            clear HE0 hbl hlp hrp
            go_wp2_with fail
            refine (kq _).mono ?_
            rintro e W3 ⟨rfl, hB3⟩
            have h3 := h2.keep hB3
            have hB' := hHB.out.trans (hB3.mono h2.big)
            clear b0 b1 b2 b3 b4 b5
            go_wp2_with fail
            refine (list_any base R mb nm true pv [] bv _ (c :: r) (m + 1) _ h3 HX2.out HBM.out HB56.out).mono ?_
            rintro e W4 (⟨he, rfl, hB4⟩ | ⟨ps, va, l, he, rfl, pv', lv', h4, hB4⟩)
            · exact ⟨rfl, .inl ⟨61, HE.out he, rfl, hB'.trans hB4⟩⟩
            · go_wp2_with fail
              refine bodyPost_end (results_none rfl _ _ _) rfl ?_
              exact .inr ⟨true, ps, va, l, HF.out _ _ _ he, rfl, pv', lv', h4, hB'.trans hB4⟩
end Go.Proofs.YtfjbmenakcnadaaDoor
