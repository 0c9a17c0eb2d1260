/- What is proved: list reads a list of parameters that is not empty. -/
import Derived.Test.YtfjbmenakcnadaaDoorM6
namespace Go.Proofs.YtfjbmenakcnadaaDoor
open Go.RowKit Go.Shelf Go.WideMaps

section
variable {W : World} {base R mb : Nat} {nm : ByteArray} {fn va : Bool} {pv bv : Value} {ps : List ByteArray} {l : List K} {g o n cap : Nat}
theorem Rd.c0 {lv : Value} (h : Rd W base R mb nm fn pv ps va bv lv l) : W.cell? ⟨R, 0, none⟩ = some (.string nm) := (h.cell 0).trans rfl
theorem Rd.c1 {lv : Value} (h : Rd W base R mb nm fn pv ps va bv lv l) : W.cell? ⟨R, 1, none⟩ = some (.bool fn) := (h.cell 1).trans rfl
theorem Rd.c2 {lv : Value} (h : Rd W base R mb nm fn pv ps va bv lv l) : W.cell? ⟨R, 2, none⟩ = some pv := (h.cell 2).trans rfl
theorem Rd.c3 {lv : Value} (h : Rd W base R mb nm fn pv ps va bv lv l) : W.cell? ⟨R, 3, none⟩ = some (.bool va) := (h.cell 3).trans rfl
theorem Rd.c4 {lv : Value} (h : Rd W base R mb nm fn pv ps va bv lv l) : W.cell? ⟨R, 4, none⟩ = some bv := (h.cell 4).trans rfl
theorem Rd.c5 {lv : Value} (h : Rd W base R mb nm fn pv ps va bv lv l) : W.cell? ⟨R, 5, none⟩ = some lv := (h.cell 5).trans rfl
theorem Rd.tok (h : Rd W base R mb nm fn pv ps va bv (.slice (some ⟨g, o, none⟩) n cap) l) {i : Nat} {t : K} (ht : l[i]? = some t) : KAt W g (o + i * 6) t := by
  obtain ⟨g', o', cap', e, _, _, _, h3⟩ := h.lf
  injection e with e1 e2 e3
  injection e1 with e1
  injection e1 with e1 e4
  subst e1 e4
  exact h3 i t ht
end

def parGood (ps : List ByteArray) (t : K) : Bool := Mx.isP t Mx.EL || Mx.parOk ps t
def parPs (ps : List ByteArray) (t : K) : List ByteArray := if Mx.isP t Mx.EL then ps else ps ++ [t.text]
theorem plist_two (ps : List ByteArray) (a b : K) (r : List K) : Mx.plist ps (a :: b :: r) =
    if parGood ps a then (if Mx.isP b Mx.RP then some (parPs ps a, Mx.isP a Mx.EL, r) else if Mx.isP b Mx.CM && !Mx.isP a Mx.EL then Mx.plist (parPs ps a) r else none) else none := by
  rw [Mx.plist]
  unfold parGood parPs
  cases h1 : Mx.isP a Mx.EL <;> cases h2 : Mx.parOk ps a <;> cases h3 : Mx.isP b Mx.RP <;> cases h4 : Mx.isP b Mx.CM <;> simp
theorem parPs_len (ps : List ByteArray) (t : K) : (parPs ps t).length ≤ ps.length + 1 := by
  unfold parPs; split <;> simp
theorem isP_excl {t : K} {s u : ByteArray} (h : Mx.isP t s = true) (hne : ¬ s = u) : Mx.isP t u = false := by
  simp only [Mx.isP, Bool.and_eq_true, beq_iff_eq, decide_eq_true_iff] at h
  simp [Mx.isP, h.2, hne]

def leftLen (W : World) (R : Nat) : Nat := match W.cell? ⟨R, 5, none⟩ with | some (.slice _ n _) => n | _ => 0
theorem Rd.left {W : World} {base R mb : Nat} {nm : ByteArray} {fn va : Bool} {pv bv lv : Value} {ps : List ByteArray} {l : List K} (h : Rd W base R mb nm fn pv ps va bv lv l) : leftLen W R = l.length := by
  obtain ⟨g, o, cap, rfl, _⟩ := h.lf
  simp [leftLen, h.cell 5]

theorem param_good (base R mb : Nat) (nm : ByteArray) (fn : Bool) (pv : Value) (ps : List ByteArray) (bv lv : Value) (l : List K) (t : K) (w : World)
    (h : Rd w base R mb nm fn pv ps false bv lv l) (ht : parGood ps t = true) (hx : t.text.size ≤ maxLen) (hl : (ps.length + 1) * 16 ≤ 140737488355328) :
    Calls Tryd.prog 85 #[.pointer (some ⟨R, 0, none⟩), kAgg t] w fun e w' => e = .returned (.tuple #[]) ∧ ∃ pv, Rd w' base R mb nm fn pv (parPs ps t) (Mx.isP t Mx.EL) bv lv l ∧ Below base w w' := by
  unfold parGood parPs at *
  cases he : Mx.isP t Mx.EL with
  | true => exact (param_el base R mb nm fn pv ps bv lv l t w h he (by unfold maxLen; omega)).mono fun e w' ⟨h1, h2, h3⟩ => ⟨h1, pv, h2, h3⟩
  | false => exact (param_id base R mb nm fn pv ps bv lv l t w h he (by simpa [he] using ht) hx hl).mono fun e w' ⟨h1, pv', h2, h3⟩ => ⟨h1, pv', h2, h3⟩

def ListPost (base R mb : Nat) (nm : ByteArray) (fn : Bool) (bv : Value) (w : World) (res : Option (List ByteArray × Bool × List K)) (e : Ending) (w' : World) : Prop :=
  (res = none ∧ e = thrown 61 ∧ Below base w w') ∨ ∃ ps va l, res = some (ps, va, l) ∧ e = .returned (.tuple #[]) ∧ ∃ pv lv, Rd w' base R mb nm fn pv ps va bv lv l ∧ Below base w w'

def ListRel (base R mb : Nat) (nm : ByteArray) (fn : Bool) (bv : Value) (N : Nat) (w : World) (res : Option (List ByteArray × Bool × List K)) (b : Bool) (m : Nat) (wr : World) : Prop :=
  Below base w wr ∧ ∃ ps va l pv lv, Rd wr base R mb nm fn pv ps va bv lv l ∧ l.length = m ∧ ps.length + l.length ≤ N ∧ (∀ t ∈ l, t.text.size ≤ maxLen) ∧ ((b = false ∧ va = false ∧ Mx.plist ps l = res) ∨ (b = true ∧ res = some (ps, va, l)))

set_option maxRecDepth 100000 in
set_option maxHeartbeats 8000000 in
theorem list_any (base R mb : Nat) (nm : ByteArray) (fn : Bool) (pv : Value) (ps : List ByteArray) (bv lv : Value) (l : List K) (N : Nat) (w : World)
    (h : Rd w base R mb nm fn pv ps false bv lv l) (hx : ∀ t ∈ l, t.text.size ≤ maxLen) (hN : ps.length + l.length ≤ N) (hl : N * 56 ≤ 140737488355328) :
    Calls Tryd.prog 74 #[.pointer (some ⟨R, 0, none⟩)] w (ListPost base R mb nm fn bv w (Mx.plist ps l)) := by
  obtain ⟨res, hres⟩ : ∃ res, res = Mx.plist ps l := ⟨_, rfl⟩
  rw [← hres]
  go_enter Tryd.func74, Tryd.ntmps74
  go_wp2_with fail
  go_loopw [2] (fun b wr => ∃ bb m, b = .bool bb ∧ ListRel base R mb nm fn bv N w res bb m wr) (fun _ wr => leftLen wr R)
  case atStart => exact ⟨false, _, rfl, Below.refl _ _, ps, false, l, pv, lv, h, rfl, hN, hx, .inl ⟨rfl, rfl, hres.symm⟩⟩
  case round =>
    obtain ⟨bb, m, rfl, hB, ps', va, l', pv', lv', hr, rfl, hN', hx', hcase⟩ := hrel
    rcases hcase with ⟨rfl, rfl, hp⟩ | ⟨rfl, hp⟩
    · rcases l' with _ | ⟨a, _ | ⟨b, r⟩⟩
      · obtain ⟨g, o, cap, rfl, h1, h2, hg, -⟩ := id hr.lf
        have c5 := hr.c5
        simp only [List.length_nil] at c5 h1
        go_wp2_with fail
        refine (must_no 61 _).mono ?_
        rintro e W1 ⟨rfl, rfl⟩
        exact ⟨rfl, .inl ⟨by rw [← hp]; rfl, rfl, hB⟩⟩
      · obtain ⟨g, o, cap, rfl, h1, h2, hg, -⟩ := id hr.lf
        have c5 := hr.c5
        simp only [List.length_cons, List.length_nil] at c5 h1
        go_wp2_with fail
        refine (must_no 61 _).mono ?_
        rintro e W1 ⟨rfl, rfl⟩
        exact ⟨rfl, .inl ⟨by rw [← hp]; rfl, rfl, hB⟩⟩
      · obtain ⟨g, o, cap, rfl, hc1, hc2, hg, -⟩ := id hr.lf
        have c5 := hr.c5
        have ka := hr.tok (i := 0) rfl
        have hxa := hx' a (by simp)
        rw [plist_two] at hp
        simp only [List.length_cons] at c5 hc1
        obtain ⟨n, hn⟩ : ∃ n, n = r.length := ⟨_, rfl⟩
        rw [← hn] at c5 hc1
        have z1 : (2 : Int) ≤ (n : Int) + 1 + 1 := by omega
        obtain ⟨a0, a1, a2, a3, a4, a5⟩ := ka
        simp only [Nat.zero_mul, Nat.add_zero] at a0 a1 a2 a3 a4 a5
        have hps : (ps'.length + 1) * 16 ≤ 140737488355328 := by simp only [List.length_cons] at hN'; omega
        have HN := Lib.hid hn
        have HP := Lib.hid hp
        have HR := Lib.hid hr
        have HX := Lib.hid hx'
        have HN' := Lib.hid hN'
        clear hn hp hr hx' hN'
        go_wp2_with fail
        refine (must_ok 61 _).mono ?_
        rintro e W1 ⟨rfl, hW⟩
        subst hW
        go_wp2_with fail
        cases hgd : parGood ps' a with
        | false =>
          have hq : Mx.isP a Mx.EL = false ∧ Mx.parOk ps' a = false := by simpa [parGood] using hgd
          refine (param_bad base R mb nm fn pv' ps' bv _ _ a _ HR.out hq.1 hq.2 hxa).mono ?_
          rintro e W2 ⟨rfl, hB2⟩
          exact ⟨rfl, .inl ⟨by rw [← HP.out, hgd]; rfl, rfl, hB.trans hB2⟩⟩
        | true =>
          have hlen : (parPs ps' a).length + r.length ≤ N := by have := parPs_len ps' a; have := HN'.out; simp only [List.length_cons] at this; omega
          have hxr : ∀ t ∈ r, t.text.size ≤ maxLen := fun t ht => HX.out t (by simp [ht])
          refine (param_good base R mb nm fn pv' ps' bv _ _ a _ HR.out hgd hxa hps).mono ?_
          rintro e W2 ⟨rfl, pv2, h2, hB2⟩
          replace hB := hB.trans hB2
          obtain ⟨q3, hq3⟩ : ∃ q, q = Mx.isP a Mx.EL := ⟨_, rfl⟩
          obtain ⟨q1, hq1⟩ : ∃ q, q = Mx.isP b Mx.RP := ⟨_, rfl⟩
          obtain ⟨q2, hq2⟩ : ∃ q, q = Mx.isP b Mx.CM := ⟨_, rfl⟩
          obtain ⟨ps2, hps2⟩ : ∃ q, q = parPs ps' a := ⟨_, rfl⟩
          have hp := HP.out
          rw [hgd, ← hq3, ← hq1, ← hq2, ← hps2] at hp
          simp only [if_true] at hp
          rw [← hq3, ← hps2] at h2
          rw [← hps2] at hlen
          have k1 := msign_any b Mx.RP
          have k2 := msign_any b Mx.CM
          rw [← hq1] at k1
          rw [← hq2] at k2
          have HP2 := Lib.hid hp
          clear hp HP hq1 hq2 hq3 hps2
          have c5' := h2.c5
          have kb := h2.tok (i := 1) rfl
          simp only [List.length_cons, ← HN.out] at c5'
          obtain ⟨b0, b1, b2, b3, b4, b5⟩ := kb
          simp only [Nat.one_mul] at b0 b1 b2 b3 b4 b5
          clear c5 a0 a1 a2 a3 a4 a5
          go_wp2_with fail
          refine (k1 _).mono ?_
          rintro e W3 ⟨rfl, hB3⟩
          have h3 := h2.keep hB3
          replace hB := hB.trans (hB3.mono h2.big)
          clear c5' b0 b1 b2 b3 b4 b5
          have c5' := h3.c5
          have kb := h3.tok (i := 1) rfl
          simp only [List.length_cons, ← HN.out] at c5'
          obtain ⟨b0, b1, b2, b3, b4, b5⟩ := kb
          simp only [Nat.one_mul] at b0 b1 b2 b3 b4 b5
          go_wp2_with fail
          refine (k2 _).mono ?_
          rintro e W4 ⟨rfl, hB4⟩
          have h4 := h3.keep hB4
          replace hB := hB.trans (hB4.mono h3.big)
          clear c5' b0 b1 b2 b3 b4 b5
          have c5' := h4.c5
          have c3' := h4.c3
          have f5 := h4.froz 5
          have hRl := h4.ltR
          simp only [List.length_cons, ← HN.out] at c5'
          cases q1 with
          | true =>
            cases q2 with
            | true =>
              go_wp2_with fail
              refine (must_ok 61 _).mono ?_
              rintro e W5 ⟨rfl, hW⟩
              subst hW
              rcases Decidable.em (cap = 2) with hcap | hcap
              · subst hcap
                obtain rfl : n = 0 := by omega
                have hL := h4.setLeft (Lf.tl2 (n := 0) (by simpa [← HN.out] using h4.lf) 0 (by omega))
                simp only [Nat.add_zero, Nat.sub_self] at hL
                go_wp2_with fail
                go_roundw
                case rel => exact ⟨true, _, rfl, hB.setCell h4.hR _, _, _, _, _, _, hL, rfl, hlen, hxr, .inr ⟨rfl, HP2.out.symm⟩⟩
                case measure => simp only [hL.left, HR.out.left, List.length_cons]; omega
              · have hL := h4.setLeft (Lf.tl2 (n := n) (by rw [HN.out]; exact h4.lf) 12 (by omega))
                go_wp2_with fail
                go_roundw
                case rel => exact ⟨true, _, rfl, hB.setCell h4.hR _, _, _, _, _, _, hL, rfl, hlen, hxr, .inr ⟨rfl, HP2.out.symm⟩⟩
                case measure => simp only [hL.left, HR.out.left, List.length_cons]; omega
            | false =>
              go_wp2_with fail
              refine (must_ok 61 _).mono ?_
              rintro e W5 ⟨rfl, hW⟩
              subst hW
              rcases Decidable.em (cap = 2) with hcap | hcap
              · subst hcap
                obtain rfl : n = 0 := by omega
                have hL := h4.setLeft (Lf.tl2 (n := 0) (by simpa [← HN.out] using h4.lf) 0 (by omega))
                simp only [Nat.add_zero, Nat.sub_self] at hL
                go_wp2_with fail
                go_roundw
                case rel => exact ⟨true, _, rfl, hB.setCell h4.hR _, _, _, _, _, _, hL, rfl, hlen, hxr, .inr ⟨rfl, HP2.out.symm⟩⟩
                case measure => simp only [hL.left, HR.out.left, List.length_cons]; omega
              · have hL := h4.setLeft (Lf.tl2 (n := n) (by rw [HN.out]; exact h4.lf) 12 (by omega))
                go_wp2_with fail
                go_roundw
                case rel => exact ⟨true, _, rfl, hB.setCell h4.hR _, _, _, _, _, _, hL, rfl, hlen, hxr, .inr ⟨rfl, HP2.out.symm⟩⟩
                case measure => simp only [hL.left, HR.out.left, List.length_cons]; omega
          | false =>
            cases q2 with
            | true =>
              cases q3 with
              | true =>
                go_wp2_with fail
                refine (must_no 61 _).mono ?_
                rintro e W5 ⟨rfl, hW⟩
                subst hW
                exact ⟨rfl, .inl ⟨HP2.out.symm, rfl, hB⟩⟩
              | false =>
                go_wp2_with fail
                refine (must_ok 61 _).mono ?_
                rintro e W5 ⟨rfl, hW⟩
                subst hW
                rcases Decidable.em (cap = 2) with hcap | hcap
                · subst hcap
                  obtain rfl : n = 0 := by omega
                  have hL := h4.setLeft (Lf.tl2 (n := 0) (by simpa [← HN.out] using h4.lf) 0 (by omega))
                  simp only [Nat.add_zero, Nat.sub_self] at hL
                  go_wp2_with fail
                  go_roundw
                  case rel => exact ⟨false, _, rfl, hB.setCell h4.hR _, _, _, _, _, _, hL, rfl, hlen, hxr, .inl ⟨rfl, rfl, HP2.out⟩⟩
                  case measure => simp only [hL.left, HR.out.left, List.length_cons]; omega
                · have hL := h4.setLeft (Lf.tl2 (n := n) (by rw [HN.out]; exact h4.lf) 12 (by omega))
                  go_wp2_with fail
                  go_roundw
                  case rel => exact ⟨false, _, rfl, hB.setCell h4.hR _, _, _, _, _, _, hL, rfl, hlen, hxr, .inl ⟨rfl, rfl, HP2.out⟩⟩
                  case measure => simp only [hL.left, HR.out.left, List.length_cons]; omega
            | false =>
              go_wp2_with fail
              refine (must_no 61 _).mono ?_
              rintro e W5 ⟨rfl, hW⟩
              subst hW
              exact ⟨rfl, .inl ⟨HP2.out.symm, rfl, hB⟩⟩
    · go_wp2_with fail
      go_end0
      exact .inr ⟨ps', va, l', hp, rfl, pv', lv', hr, hB⟩
end Go.Proofs.YtfjbmenakcnadaaDoor
