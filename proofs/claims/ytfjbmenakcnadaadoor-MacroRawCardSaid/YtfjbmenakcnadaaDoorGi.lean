/- What is proved: list reads a list of parameters that is not empty. (and what stands with it) -/
import Derived.Test.YtfjbmenakcnadaaDoorGh
import Derived.Laws.OwnMore

/- What is proved: list reads a list of parameters that is not empty. -/
namespace Go.Proofs.YtfjbmenakcnadaaDoor
open Go.RowKit Go.Shelf Go.WideMaps

section
variable {W : World} {base R mb : Nat} {nm : ByteArray} {fn va : Bool} {pv bv : Value} {ps : List ByteArray} {l : List K} {g o n cap : Nat}
theorem Rd.c0 {lv : Value} (h : Rd W base R mb nm fn pv ps va bv lv l) : W.cell? ⟨R, 0, none⟩ = some (.string nm) := (h.cell 0).trans rfl
theorem Rd.c1 {lv : Value} (h : Rd W base R mb nm fn pv ps va bv lv l) : W.cell? ⟨R, 1, none⟩ = some (.bool fn) := (h.cell 1).trans rfl
theorem Rd.c2 {lv : Value} (h : Rd W base R mb nm fn pv ps va bv lv l) : W.cell? ⟨R, 2, none⟩ = some pv := (h.cell 2).trans rfl
theorem Rd.c3 {lv : Value} (h : Rd W base R mb nm fn pv ps va bv lv l) : W.cell? ⟨R, 3, none⟩ = some (.bool va) := (h.cell 3).trans rfl
theorem Rd.c4 {lv : Value} (h : Rd W base R mb nm fn pv ps va bv lv l) : W.cell? ⟨R, 4, none⟩ = some bv := (h.cell 4).trans rfl
theorem Rd.c5 {lv : Value} (h : Rd W base R mb nm fn pv ps va bv lv l) : W.cell? ⟨R, 5, none⟩ = some lv := (h.cell 5).trans rfl
theorem Rd.tok (h : Rd W base R mb nm fn pv ps va bv (.slice (some ⟨g, o, none⟩) n cap) l) {i : Nat} {t : K} (ht : l[i]? = some t) : KAt W g (o + i * 6) t := by
  obtain ⟨g', o', cap', e, _, _, _, h3⟩ := h.lf
  injection e with e1 e2 e3
  injection e1 with e1
  injection e1 with e1 e4
  subst e1 e4
  exact h3 i t ht
end

def parGood (ps : List ByteArray) (t : K) : Bool := Mx.isP t Mx.EL || Mx.parOk ps t
def parPs (ps : List ByteArray) (t : K) : List ByteArray := if Mx.isP t Mx.EL then ps else ps ++ [t.text]
theorem plist_two (ps : List ByteArray) (a b : K) (r : List K) : Mx.plist ps (a :: b :: r) =
    if parGood ps a then (if Mx.isP b Mx.RP then some (parPs ps a, Mx.isP a Mx.EL, r) else if Mx.isP b Mx.CM && !Mx.isP a Mx.EL then Mx.plist (parPs ps a) r else none) else none := by
  rw [Mx.plist]
  unfold parGood parPs
  cases h1 : Mx.isP a Mx.EL <;> cases h2 : Mx.parOk ps a <;> cases h3 : Mx.isP b Mx.RP <;> cases h4 : Mx.isP b Mx.CM <;> simp
theorem parPs_len (ps : List ByteArray) (t : K) : (parPs ps t).length ≤ ps.length + 1 := by
  unfold parPs; split <;> simp
theorem isP_excl {t : K} {s u : ByteArray} (h : Mx.isP t s = true) (hne : ¬ s = u) : Mx.isP t u = false := by
  simp only [Mx.isP, Bool.and_eq_true, beq_iff_eq, decide_eq_true_iff] at h
  simp [Mx.isP, h.2, hne]

def leftLen (W : World) (R : Nat) : Nat := match W.cell? ⟨R, 5, none⟩ with | some (.slice _ n _) => n | _ => 0
theorem Rd.left {W : World} {base R mb : Nat} {nm : ByteArray} {fn va : Bool} {pv bv lv : Value} {ps : List ByteArray} {l : List K} (h : Rd W base R mb nm fn pv ps va bv lv l) : leftLen W R = l.length := by
  obtain ⟨g, o, cap, rfl, _⟩ := h.lf
  simp [leftLen, h.cell 5]

theorem param_good (base R mb : Nat) (nm : ByteArray) (fn : Bool) (pv : Value) (ps : List ByteArray) (bv lv : Value) (l : List K) (t : K) (w : World)
    (h : Rd w base R mb nm fn pv ps false bv lv l) (ht : parGood ps t = true) (hx : t.text.size ≤ maxLen) (hl : (ps.length + 1) * 16 ≤ 140737488355328) :
    Calls Tryd.prog 85 #[.pointer (some ⟨R, 0, none⟩), kAgg t] w fun e w' => e = .returned (.tuple #[]) ∧ ∃ pv, Rd w' base R mb nm fn pv (parPs ps t) (Mx.isP t Mx.EL) bv lv l ∧ Below base w w' := by
  unfold parGood parPs at *
  cases he : Mx.isP t Mx.EL with
  | true => exact (param_el base R mb nm fn pv ps bv lv l t w h he (by unfold maxLen; omega)).mono fun e w' ⟨h1, h2, h3⟩ => ⟨h1, pv, h2, h3⟩
  | false => exact (param_id base R mb nm fn pv ps bv lv l t w h he (by simpa [he] using ht) hx hl).mono fun e w' ⟨h1, pv', h2, h3⟩ => ⟨h1, pv', h2, h3⟩

def ListPost (base R mb : Nat) (nm : ByteArray) (fn : Bool) (bv : Value) (w : World) (res : Option (List ByteArray × Bool × List K)) (e : Ending) (w' : World) : Prop :=
  (res = none ∧ e = thrown 61 ∧ Below base w w') ∨ ∃ ps va l, res = some (ps, va, l) ∧ e = .returned (.tuple #[]) ∧ ∃ pv lv, Rd w' base R mb nm fn pv ps va bv lv l ∧ Below base w w'

def ListRel (base R mb : Nat) (nm : ByteArray) (fn : Bool) (bv : Value) (N : Nat) (w : World) (res : Option (List ByteArray × Bool × List K)) (b : Bool) (m : Nat) (wr : World) : Prop :=
  Below base w wr ∧ ∃ ps va l pv lv, Rd wr base R mb nm fn pv ps va bv lv l ∧ l.length = m ∧ ps.length + l.length ≤ N ∧ (∀ t ∈ l, t.text.size ≤ maxLen) ∧ ((b = false ∧ va = false ∧ Mx.plist ps l = res) ∨ (b = true ∧ res = some (ps, va, l)))

set_option maxRecDepth 100000 in
set_option maxHeartbeats 8000000 in
theorem list_any (base R mb : Nat) (nm : ByteArray) (fn : Bool) (pv : Value) (ps : List ByteArray) (bv lv : Value) (l : List K) (N : Nat) (w : World)
    (h : Rd w base R mb nm fn pv ps false bv lv l) (hx : ∀ t ∈ l, t.text.size ≤ maxLen) (hN : ps.length + l.length ≤ N) (hl : N * 56 ≤ 140737488355328) :
    Calls Tryd.prog 74 #[.pointer (some ⟨R, 0, none⟩)] w (ListPost base R mb nm fn bv w (Mx.plist ps l)) := by
  obtain ⟨res, hres⟩ : ∃ res, res = Mx.plist ps l := ⟨_, rfl⟩
  rw [← hres]
  go_enter Tryd.func74, Tryd.ntmps74
  go_wp2_with fail
  go_loopw [2] (fun b wr => ∃ bb m, b = .bool bb ∧ ListRel base R mb nm fn bv N w res bb m wr) (fun _ wr => leftLen wr R)
  case atStart => exact ⟨false, _, rfl, Below.refl _ _, ps, false, l, pv, lv, h, rfl, hN, hx, .inl ⟨rfl, rfl, hres.symm⟩⟩
  case round =>
    obtain ⟨bb, m, rfl, hB, ps', va, l', pv', lv', hr, rfl, hN', hx', hcase⟩ := hrel
    rcases hcase with ⟨rfl, rfl, hp⟩ | ⟨rfl, hp⟩
    · rcases l' with _ | ⟨a, _ | ⟨b, r⟩⟩
      · obtain ⟨g, o, cap, rfl, h1, h2, hg, -⟩ := id hr.lf
        have c5 := hr.c5
        simp only [List.length_nil] at c5 h1
        go_wp2_with fail
        refine (must_no 61 _).mono ?_
        rintro e W1 ⟨rfl, rfl⟩
        exact ⟨rfl, .inl ⟨by rw [← hp]; rfl, rfl, hB⟩⟩
      · obtain ⟨g, o, cap, rfl, h1, h2, hg, -⟩ := id hr.lf
        have c5 := hr.c5
        simp only [List.length_cons, List.length_nil] at c5 h1
        go_wp2_with fail
        refine (must_no 61 _).mono ?_
        rintro e W1 ⟨rfl, rfl⟩
        exact ⟨rfl, .inl ⟨by rw [← hp]; rfl, rfl, hB⟩⟩
      · obtain ⟨g, o, cap, rfl, hc1, hc2, hg, -⟩ := id hr.lf
        have c5 := hr.c5
        have ka := hr.tok (i := 0) rfl
        have hxa := hx' a (by simp)
        rw [plist_two] at hp
        simp only [List.length_cons] at c5 hc1
        obtain ⟨n, hn⟩ : ∃ n, n = r.length := ⟨_, rfl⟩
        rw [← hn] at c5 hc1
        have z1 : (2 : Int) ≤ (n : Int) + 1 + 1 := by omega
        obtain ⟨a0, a1, a2, a3, a4, a5⟩ := ka
        simp only [Nat.zero_mul, Nat.add_zero] at a0 a1 a2 a3 a4 a5
        have hps : (ps'.length + 1) * 16 ≤ 140737488355328 := by simp only [List.length_cons] at hN'; omega
        have HN := Lib.hid hn
        have HP := Lib.hid hp
        have HR := Lib.hid hr
        have HX := Lib.hid hx'
        have HN' := Lib.hid hN'
        clear hn hp hr hx' hN'
        go_wp2_with fail
        refine (must_ok 61 _).mono ?_
        rintro e W1 ⟨rfl, hW⟩
        subst hW
        go_wp2_with fail
        cases hgd : parGood ps' a with
        | false =>
          have hq : Mx.isP a Mx.EL = false ∧ Mx.parOk ps' a = false := by simpa [parGood] using hgd
          refine (param_bad base R mb nm fn pv' ps' bv _ _ a _ HR.out hq.1 hq.2 hxa).mono ?_
          rintro e W2 ⟨rfl, hB2⟩
          exact ⟨rfl, .inl ⟨by rw [← HP.out, hgd]; rfl, rfl, hB.trans hB2⟩⟩
        | true =>
          have hlen : (parPs ps' a).length + r.length ≤ N := by have := parPs_len ps' a; have := HN'.out; simp only [List.length_cons] at this; omega
          have hxr : ∀ t ∈ r, t.text.size ≤ maxLen := fun t ht => HX.out t (by simp [ht])
          refine (param_good base R mb nm fn pv' ps' bv _ _ a _ HR.out hgd hxa hps).mono ?_
          rintro e W2 ⟨rfl, pv2, h2, hB2⟩
          replace hB := hB.trans hB2
          obtain ⟨q3, hq3⟩ : ∃ q, q = Mx.isP a Mx.EL := ⟨_, rfl⟩
          obtain ⟨q1, hq1⟩ : ∃ q, q = Mx.isP b Mx.RP := ⟨_, rfl⟩
          obtain ⟨q2, hq2⟩ : ∃ q, q = Mx.isP b Mx.CM := ⟨_, rfl⟩
          obtain ⟨ps2, hps2⟩ : ∃ q, q = parPs ps' a := ⟨_, rfl⟩
          have hp := HP.out
          rw [hgd, ← hq3, ← hq1, ← hq2, ← hps2] at hp
          simp only [if_true] at hp
          rw [← hq3, ← hps2] at h2
          rw [← hps2] at hlen
          have k1 := msign_any b Mx.RP
          have k2 := msign_any b Mx.CM
          rw [← hq1] at k1
          rw [← hq2] at k2
          have HP2 := Lib.hid hp
          clear hp HP hq1 hq2 hq3 hps2
          have c5' := h2.c5
          have kb := h2.tok (i := 1) rfl
          simp only [List.length_cons, ← HN.out] at c5'
          obtain ⟨b0, b1, b2, b3, b4, b5⟩ := kb
          simp only [Nat.one_mul] at b0 b1 b2 b3 b4 b5
          clear c5 a0 a1 a2 a3 a4 a5
          go_wp2_with fail
          refine (k1 _).mono ?_
          rintro e W3 ⟨rfl, hB3⟩
          have h3 := h2.keep hB3
          replace hB := hB.trans (hB3.mono h2.big)
          clear c5' b0 b1 b2 b3 b4 b5
          have c5' := h3.c5
          have kb := h3.tok (i := 1) rfl
          simp only [List.length_cons, ← HN.out] at c5'
          obtain ⟨b0, b1, b2, b3, b4, b5⟩ := kb
          simp only [Nat.one_mul] at b0 b1 b2 b3 b4 b5
          go_wp2_with fail
          refine (k2 _).mono ?_
          rintro e W4 ⟨rfl, hB4⟩
          have h4 := h3.keep hB4
          replace hB := hB.trans (hB4.mono h3.big)
          clear c5' b0 b1 b2 b3 b4 b5
          have c5' := h4.c5
          have c3' := h4.c3
          have f5 := h4.froz 5
          have hRl := h4.ltR
          simp only [List.length_cons, ← HN.out] at c5'
          cases q1 with
          | true =>
            cases q2 with
            | true =>
              go_wp2_with fail
              refine (must_ok 61 _).mono ?_
              rintro e W5 ⟨rfl, hW⟩
              subst hW
              rcases Decidable.em (cap = 2) with hcap | hcap
              · subst hcap
                obtain rfl : n = 0 := by omega
                have hL := h4.setLeft (Lf.tl2 (n := 0) (by simpa [← HN.out] using h4.lf) 0 (by omega))
                simp only [Nat.add_zero, Nat.sub_self] at hL
                go_wp2_with fail
                go_roundw
                case rel => exact ⟨true, _, rfl, hB.setCell h4.hR _, _, _, _, _, _, hL, rfl, hlen, hxr, .inr ⟨rfl, HP2.out.symm⟩⟩
                case measure => simp only [hL.left, HR.out.left, List.length_cons]; omega
              · have hL := h4.setLeft (Lf.tl2 (n := n) (by rw [HN.out]; exact h4.lf) 12 (by omega))
                go_wp2_with fail
                go_roundw
                case rel => exact ⟨true, _, rfl, hB.setCell h4.hR _, _, _, _, _, _, hL, rfl, hlen, hxr, .inr ⟨rfl, HP2.out.symm⟩⟩
                case measure => simp only [hL.left, HR.out.left, List.length_cons]; omega
            | false =>
              go_wp2_with fail
              refine (must_ok 61 _).mono ?_
              rintro e W5 ⟨rfl, hW⟩
              subst hW
              rcases Decidable.em (cap = 2) with hcap | hcap
              · subst hcap
                obtain rfl : n = 0 := by omega
                have hL := h4.setLeft (Lf.tl2 (n := 0) (by simpa [← HN.out] using h4.lf) 0 (by omega))
                simp only [Nat.add_zero, Nat.sub_self] at hL
                go_wp2_with fail
                go_roundw
                case rel => exact ⟨true, _, rfl, hB.setCell h4.hR _, _, _, _, _, _, hL, rfl, hlen, hxr, .inr ⟨rfl, HP2.out.symm⟩⟩
                case measure => simp only [hL.left, HR.out.left, List.length_cons]; omega
              · have hL := h4.setLeft (Lf.tl2 (n := n) (by rw [HN.out]; exact h4.lf) 12 (by omega))
                go_wp2_with fail
                go_roundw
                case rel => exact ⟨true, _, rfl, hB.setCell h4.hR _, _, _, _, _, _, hL, rfl, hlen, hxr, .inr ⟨rfl, HP2.out.symm⟩⟩
                case measure => simp only [hL.left, HR.out.left, List.length_cons]; omega
          | false =>
            cases q2 with
            | true =>
              cases q3 with
              | true =>
                go_wp2_with fail
                refine (must_no 61 _).mono ?_
                rintro e W5 ⟨rfl, hW⟩
                subst hW
                exact ⟨rfl, .inl ⟨HP2.out.symm, rfl, hB⟩⟩
              | false =>
                go_wp2_with fail
                refine (must_ok 61 _).mono ?_
                rintro e W5 ⟨rfl, hW⟩
                subst hW
                rcases Decidable.em (cap = 2) with hcap | hcap
                · subst hcap
                  obtain rfl : n = 0 := by omega
                  have hL := h4.setLeft (Lf.tl2 (n := 0) (by simpa [← HN.out] using h4.lf) 0 (by omega))
                  simp only [Nat.add_zero, Nat.sub_self] at hL
                  go_wp2_with fail
                  go_roundw
                  case rel => exact ⟨false, _, rfl, hB.setCell h4.hR _, _, _, _, _, _, hL, rfl, hlen, hxr, .inl ⟨rfl, rfl, HP2.out⟩⟩
                  case measure => simp only [hL.left, HR.out.left, List.length_cons]; omega
                · have hL := h4.setLeft (Lf.tl2 (n := n) (by rw [HN.out]; exact h4.lf) 12 (by omega))
                  go_wp2_with fail
                  go_roundw
                  case rel => exact ⟨false, _, rfl, hB.setCell h4.hR _, _, _, _, _, _, hL, rfl, hlen, hxr, .inl ⟨rfl, rfl, HP2.out⟩⟩
                  case measure => simp only [hL.left, HR.out.left, List.length_cons]; omega
            | false =>
              go_wp2_with fail
              refine (must_no 61 _).mono ?_
              rintro e W5 ⟨rfl, hW⟩
              subst hW
              exact ⟨rfl, .inl ⟨HP2.out.symm, rfl, hB⟩⟩
    · go_wp2_with fail
      go_end0
      exact .inr ⟨ps', va, l', hp, rfl, pv', lv', hr, hB⟩
end Go.Proofs.YtfjbmenakcnadaaDoor

/- What is proved: brackets reads what stands behind the name. -/
namespace Go.Proofs.YtfjbmenakcnadaaDoor
open Go.RowKit Go.Shelf Go.WideMaps

def BrPost (base R mb : Nat) (nm : ByteArray) (bv : Value) (w : World) (res : Except Int (Bool × List ByteArray × Bool × List K)) (e : Ending) (w' : World) : Prop :=
  (∃ err, res = .error err ∧ e = thrown err ∧ Below base w w') ∨ ∃ fn ps va l, res = .ok (fn, ps, va, l) ∧ e = .returned (.tuple #[]) ∧ ∃ pv lv, Rd w' base R mb nm fn pv ps va bv lv l ∧ Below base w w'

set_option maxRecDepth 100000 in
set_option maxHeartbeats 2000000 in
theorem brackets_any (base R mb : Nat) (nm : ByteArray) (pv bv lv : Value) (r : List K) (w : World)
    (h : Rd w base R mb nm false pv [] false bv lv r) (hx : ∀ t ∈ r, t.text.size ≤ maxLen) (hl : r.length * 56 ≤ 140737488355328) :
    Calls Tryd.prog 53 #[.pointer (some ⟨R, 0, none⟩)] w (BrPost base R mb nm bv w (Mx.brack r)) := by
  obtain ⟨res, hres⟩ : ∃ res, res = Mx.brack r := ⟨_, rfl⟩
  rw [← hres]
  have hbR := h.hR
  have f1 := h.froz 1
  have f5 := h.froz 5
  have c1 := h.c1
  have c5 := h.c5
  have hRl := h.ltR
  rcases r with _ | ⟨u, r⟩
  · obtain ⟨g, o, cap, rfl, h1, h2, hg, -⟩ := id h.lf
    simp only [List.length_nil] at c5 h1
    go_enter Tryd.func53, Tryd.ntmps53
    go_wp2_with fail
    refine bodyPost_ret (results_none rfl _ _ _) rfl ?_
    exact .inr ⟨_, _, _, _, hres, rfl, pv, _, h, Below.refl _ _⟩
  · obtain ⟨g, o, cap, rfl, hc1, hc2, hg, -⟩ := id h.lf
    have ku := h.tok (i := 0) rfl
    have hgR : ¬ g = R := by omega
    have hRg : ¬ R = g := by omega
    have ks := msign_any u Mx.LP
    obtain ⟨a0, a1, a2, a3, a4, a5⟩ := ku
    simp only [Nat.zero_mul, Nat.add_zero] at a0 a1 a2 a3 a4 a5
    simp only [List.length_cons] at c5 hc1 hl
    obtain ⟨n, hn⟩ : ∃ n, n = r.length := ⟨_, rfl⟩
    rw [← hn] at c5 hc1 hl
    have HN := Lib.hid hn
    have HH := Lib.hid h
    have HX := Lib.hid hx
    have HRES := Lib.hid hres
    clear hn h hx hres
    cases hbl : u.bl with
    | true =>
      rw [hbl] at a5
      go_enter Tryd.func53, Tryd.ntmps53
      go_wp2_with fail
      refine bodyPost_ret (results_none rfl _ _ _) rfl ?_
      exact .inr ⟨_, _, _, _, by rw [HRES.out]; simp [Mx.brack, hbl], rfl, pv, _, HH.out, Below.refl _ _⟩
    | false =>
      rw [hbl] at a5
      cases hlp : Mx.isP u Mx.LP with
      | false =>
        rw [hlp] at ks
        simp only [kAgg, hbl] at ks
        have HE0 : res = .error 62 := by rw [HRES.out]; simp [Mx.brack, hbl, hlp]
        have HE := Lib.hid HE0
        clear HE0
        clear hbl hlp
        go_enter Tryd.func53, Tryd.ntmps53
        go_wp2_with fail
        refine (ks _).mono ?_
        rintro e W1 ⟨rfl, hB⟩
        go_wp2_with fail
        refine (must_no 62 _).mono ?_
        rintro e W2 ⟨rfl, hW⟩
        subst hW
        exact ⟨rfl, .inl ⟨62, HE.out, rfl, hB.mono HH.out.big⟩⟩
      | true =>
        rw [hlp] at ks
        simp only [kAgg, hbl] at ks
        go_enter Tryd.func53, Tryd.ntmps53
        go_wp2_with fail
        refine (ks _).mono ?_
        rintro e W1 ⟨rfl, hB⟩
        have h1 := HH.out.keep hB
        replace hB := hB.mono HH.out.big
        clear c1 c5 a0 a1 a2 a3 a4 a5 f1 f5 hRl
        go_wp2_with fail
        refine (must_ok 62 _).mono ?_
        rintro e W2 ⟨rfl, hW⟩
        subst hW
        have c1 := h1.c1
        have f1 := h1.froz 1
        have f5 := h1.froz 5
        have c5 := h1.c5
        have hRl := h1.ltR
        simp only [List.length_cons, ← HN.out] at c5
        rcases r with _ | ⟨c, r⟩
        · obtain rfl : n = 0 := HN.out
          have HE0 : res = .error 61 := by rw [HRES.out]; simp [Mx.brack, hbl, hlp]
          have HE := Lib.hid HE0
          clear HE0
          clear hbl hlp
          obtain ⟨d, rfl⟩ : ∃ d, cap = d + 1 := ⟨cap - 1, by omega⟩
          rcases Decidable.em (d = 0) with rfl | hd
          · have h2 := (h1.setFn true).setLeft (Lf.tl (n := 0) (h1.setFn true).lf 0 (by omega))
            go_wp2_with fail
            refine (list_any base R mb nm true pv [] bv _ [] 0 _ h2 (by simp) (by simp) (by omega)).mono ?_
            rintro e W3 (⟨-, rfl, hB3⟩ | ⟨ps, va, l, he, -⟩)
            · exact ⟨rfl, .inl ⟨61, HE.out, rfl, ((hB.setCell hbR _).setCell hbR _).trans hB3⟩⟩
            · cases he
          · have h2 := (h1.setFn true).setLeft (Lf.tl (n := 0) (h1.setFn true).lf 6 (by omega))
            go_wp2_with fail
            refine (list_any base R mb nm true pv [] bv _ [] 0 _ h2 (by simp) (by simp) (by omega)).mono ?_
            rintro e W3 (⟨-, rfl, hB3⟩ | ⟨ps, va, l, he, -⟩)
            · exact ⟨rfl, .inl ⟨61, HE.out, rfl, ((hB.setCell hbR _).setCell hbR _).trans hB3⟩⟩
            · cases he
        · obtain ⟨m, hm⟩ : ∃ m, m = r.length := ⟨_, rfl⟩
          obtain rfl : n = m + 1 := by rw [HN.out, hm]; rfl
          obtain ⟨d, rfl⟩ : ∃ d, cap = d + 2 := ⟨cap - 2, by omega⟩
          have HB56 := Lib.hid (show (m + 1) * 56 ≤ 140737488355328 from Nat.le_trans (Nat.mul_le_mul_right 56 (Nat.le_succ _)) hl)
          have HBM := Lib.hid (show ([] : List ByteArray).length + (c :: r).length ≤ m + 1 by simp [← hm])
          have HM := Lib.hid hm
          clear hm
          have kc := h1.tok (i := 1) rfl
          obtain ⟨b0, b1, b2, b3, b4, b5⟩ := kc
          simp only [Nat.one_mul] at b0 b1 b2 b3 b4 b5
          have h2 := (h1.setFn true).setLeft (Lf.tl (n := m + 1) (cap := d + 2) (by rw [HM.out]; exact (h1.setFn true).lf) 6 (by omega))
          simp only [show d + 2 - 1 = d + 1 from rfl] at h2
          have kq := msign_any c Mx.RP
          have HX1 : ∀ t ∈ c :: r, t.text.size ≤ maxLen := fun t ht => HX.out t (List.mem_cons_of_mem _ ht)
          have HX2 := Lib.hid HX1
          have hHB := Lib.hid ((hB.setCell (p := ⟨R, 1, none⟩) hbR (.bool true)).setCell (p := ⟨R, 5, none⟩) hbR (.slice (some ⟨g, o + 6, none⟩) (m + 1) (d + 1)))
          clear HX1 HX hB
          cases hrp : Mx.isP c Mx.RP with
          | true =>
            rw [hrp] at kq
            have HE0 : res = .ok (true, [], false, r) := by rw [HRES.out]; simp [Mx.brack, hbl, hlp, hrp]
            have HE := Lib.hid HE0
            clear HE0 hbl hlp hrp
            go_wp2_with fail
            refine (kq _).mono ?_
            rintro e W3 ⟨rfl, hB3⟩
            have h3 := h2.keep hB3
            have hB' := hHB.out.trans (hB3.mono h2.big)
            have c5 := h3.c5
            have f5 := h3.froz 5
            have hRl := h3.ltR
            clear b0 b1 b2 b3 b4 b5
            rcases Decidable.em (d = 0) with rfl | hd
            · obtain rfl : m = 0 := by omega
              have hL := h3.setLeft (Lf.tl (n := 0) (by simpa [← HM.out] using h3.lf) 0 (by omega))
              go_wp2_with fail
              refine bodyPost_ret (results_none rfl _ _ _) rfl ?_
              exact .inr ⟨_, _, _, _, HE.out, rfl, pv, _, hL, hB'.setCell hbR _⟩
            · have hL := h3.setLeft (Lf.tl (n := m) h3.lf 6 (by omega))
              go_wp2_with fail
              refine bodyPost_ret (results_none rfl _ _ _) rfl ?_
              exact .inr ⟨_, _, _, _, HE.out, rfl, pv, _, hL, hB'.setCell hbR _⟩
          | false =>
            rw [hrp] at kq
            have HE0 : Mx.plist [] (c :: r) = none → res = .error 61 := fun h => by rw [HRES.out]; simp [Mx.brack, hbl, hlp, hrp, h]
            have HE1 : ∀ ps va l, Mx.plist [] (c :: r) = some (ps, va, l) → res = .ok (true, ps, va, l) := fun ps va l h => by rw [HRES.out]; simp [Mx.brack, hbl, hlp, hrp, h]
            have HE := Lib.hid HE0
            have HF := Lib.hid HE1
            clear HE1
            clear HE0 hbl hlp hrp
            go_wp2_with fail
            refine (kq _).mono ?_
            rintro e W3 ⟨rfl, hB3⟩
            have h3 := h2.keep hB3
            have hB' := hHB.out.trans (hB3.mono h2.big)
            clear b0 b1 b2 b3 b4 b5
            go_wp2_with fail
            refine (list_any base R mb nm true pv [] bv _ (c :: r) (m + 1) _ h3 HX2.out HBM.out HB56.out).mono ?_
            rintro e W4 (⟨he, rfl, hB4⟩ | ⟨ps, va, l, he, rfl, pv', lv', h4, hB4⟩)
            · exact ⟨rfl, .inl ⟨61, HE.out he, rfl, hB'.trans hB4⟩⟩
            · go_wp2_with fail
              refine bodyPost_end (results_none rfl _ _ _) rfl ?_
              exact .inr ⟨true, ps, va, l, HF.out _ _ _ he, rfl, pv', lv', h4, hB'.trans hB4⟩
end Go.Proofs.YtfjbmenakcnadaaDoor

/- What is proved: what bare tells, the program's own and the document's. -/
namespace Go.Proofs.YtfjbmenakcnadaaDoor
open Go.RowKit Go.Shelf

theorem eql_toks (w : World) (a : Option Addr) (n c n' c' : Nat) : (binOp .eql 24 (.slice a n c) (.slice none n' c')).run Tryd.prog w = .ok (.bool a.isNone) w := Lib.run_eql_slice_nil w _ _ a n c n' c' Tryd.underlying24

/-- The cells of tokens, one behind the other. -/
theorem Ks.row {W : World} {g o n cap : Nat} {ts : List K} (h : Ks W (.slice (some ⟨g, o, none⟩) n cap) ts) : ∀ j u, (ksCells ts)[j]? = some u → W.cell? ⟨g, o + j, none⟩ = some u := by
  intro j u hj
  have hlt := (List.getElem?_eq_some_iff.1 hj).1
  rw [ksCells_length] at hlt
  have hi : j / 6 < ts.length := by omega
  obtain ⟨g', o', e, c⟩ : ∃ g' o', (some (⟨g, o, none⟩ : Addr)) = some ⟨g', o', none⟩ ∧ KAt W g' (o' + j / 6 * 6) ts[j / 6] := by
    obtain ⟨ad', cap', e, _, _, h3⟩ := h
    injection e with e1 e2 e3
    subst e1
    exact h3 _ _ (List.getElem?_eq_getElem hi)
  injection e with e
  injection e with e1 e2
  subst e1 e2
  have hm : j % 6 < 6 := Nat.mod_lt _ (by omega)
  have hj6 : j = j / 6 * 6 + j % 6 := by omega
  obtain ⟨t, ht⟩ : ∃ t, t = ts[j / 6] := ⟨_, rfl⟩
  rw [← ht] at c
  have hg : ts[j / 6]? = some t := by rw [ht]; exact List.getElem?_eq_getElem hi
  obtain ⟨q, hq⟩ : ∃ q, q = j / 6 := ⟨_, rfl⟩
  obtain ⟨r, hr⟩ : ∃ r, r = j % 6 := ⟨_, rfl⟩
  rw [← hq] at c hg hj6
  rw [← hr] at hm hj6
  clear hq hr ht hi hlt
  subst hj6
  have key := fun v hv => ksCells_get ts q t hg r v hv
  have hr6 : r < (kCells t).length := hm
  have e3 := key _ (List.getElem?_eq_getElem hr6)
  rw [hj] at e3
  obtain rfl := Option.some.inj e3
  obtain ⟨c0, c1, c2, c3, c4, c5⟩ := c
  have h6 : r = 0 ∨ r = 1 ∨ r = 2 ∨ r = 3 ∨ r = 4 ∨ r = 5 := by omega
  rw [← Nat.add_assoc]
  rcases h6 with rfl | rfl | rfl | rfl | rfl | rfl
  · exact c0
  · exact c1
  · exact c2
  · exact c3
  · exact c4
  · exact c5

set_option maxHeartbeats 4000000 in
set_option maxRecDepth 100000 in
/-- Clone: new memory that holds the same tokens. -/
theorem clone_any (v : Value) (ts : List K) (w : World) (hv : Ks w v ts) (hl : ts.length * 56 ≤ 140737488355328) :
    Calls Tryd.prog 60 #[v] w fun e w' => ∃ u, e = .returned u ∧ w'.ownsRow w.heap.size 39 6 u ts.length (ksCells ts) ∧ Below w.heap.size w w' := by
  obtain ⟨i0, hi, hz0, hz1, hz2⟩ := info_parts infoTok
  obtain ⟨ad, cap, rfl, hc1, hc2, hc3⟩ := id hv
  cases ad with
  | none =>
    have h0 : ts = [] := by
      cases ts with
      | nil => rfl
      | cons t r => obtain ⟨g, o, e, _⟩ := hc3 0 t rfl; cases e
    subst h0
    have q := eql_toks
    clear hv hc3
    go_enter Tryd.func60, Tryd.ntmps60
    go_wp2_with fail
    go_ret
    exact ⟨_, rfl, World.ownsRow_nil _ _ _ _, Below.refl _ _⟩
  | some a =>
    have q := eql_toks
    have hrow : ∀ j u, (ksCells ts)[j]? = some u → w.cell? (a.add j) = some u := by
      intro j u hj
      have hlt := (List.getElem?_eq_some_iff.1 hj).1
      rw [ksCells_length] at hlt
      obtain ⟨g, o, e, _⟩ := hc3 0 _ (List.getElem?_eq_getElem (by omega))
      injection e with e
      subst e
      rw [add_none]
      exact hv.row j u hj
    have HR := Lib.hid hrow
    obtain ⟨n, hn⟩ : ∃ n, n = ts.length := ⟨_, rfl⟩
    rw [← hn] at hl hc1 ⊢
    have Hn := Lib.hid hn
    clear hv hc3 hrow hn
    go_enter Tryd.func60, Tryd.ntmps60
    go_wp2_with (at_builtin; refine wpList_append_own _ rfl _ _ 24 rfl w.heap.size 39 i0 _ 6 56 Tryd.underlying24 hi hz0 hz1 hz2 rfl (by decide) _ _ _ rfl (World.ownsRow_made w #[] 0 (Nat.le_refl _) (Nat.zero_le _) rfl) a n cap (ksCells ts) rfl ?qc1 ?qc2 ?qc3 ?qc4 ?qc5 ?qc6 ?_)
    case qc1 => rw [ksCells_length, Hn.out]
    case qc2 => intro j u hj; exact Lib.cell?_alloc_some _ (HR.out j u hj)
    case qc3 => exact ksCells_one ts
    case qc4 => unfold maxLen; omega
    case qc5 => omega
    case qc6 => simp
    intro v' w1 hown hgrow hnil
    go_wp2_with fail
    go_ret
    exact ⟨v', rfl, hown, ((Below.refl _ w).alloc (Nat.le_refl _) _).grown hgrow (by simp) (by intro k hk; simp [Value.ownBlock] at hk; omega)⟩


/-- A bare body of new memory. -/
def BarePost (w : World) (ts : List K) (e : Ending) (w' : World) : Prop := ∃ u, e = .returned u ∧ w'.ownsRow w.heap.size 39 6 u ts.length (ksCells (Mx.bare ts)) ∧ Below w.heap.size w w'

theorem ks_bare (t : K) (r : List K) : (ksCells (t :: r)).set 5 (.bool false) = ksCells (Mx.bare (t :: r)) := rfl
theorem bare_len (l : List K) : (Mx.bare l).length = l.length := by cases l <;> rfl

set_option maxHeartbeats 2000000 in
set_option maxRecDepth 100000 in
theorem bare_any (v : Value) (ts : List K) (w : World) (hv : Ks w v ts) (hl : ts.length * 56 ≤ 140737488355328) :
    Calls Tryd.prog 38 #[v] w (BarePost w ts) := by
  obtain ⟨ad, cap, rfl, hc1, hc2, hc3⟩ := id hv
  have HV := Lib.hid hv
  have HL := Lib.hid hl
  clear hv hc3 hc1 hl
  go_enter Tryd.func38, Tryd.ntmps38
  go_wp2_with fail
  refine (clone_any _ ts _ HV.out HL.out).mono ?_
  rintro e W ⟨u, rfl, hrow, hB⟩
  rcases ts with _ | ⟨t, r⟩
  · obtain ⟨au, nu, cu, rfl⟩ : ∃ a n c, u = .slice a n c := by
      rcases hrow.2 with ⟨rfl, _⟩ | ⟨g, cap, cur, rfl, _⟩
      · exact ⟨_, _, _, rfl⟩
      · exact ⟨_, _, _, rfl⟩
    have hn0 : nu = 0 := by
      rcases hrow.2 with ⟨h, _⟩ | ⟨g, cap, cur, h, _⟩ <;> (injection h with _ h _)
    subst hn0
    have HR := Lib.hid hrow
    clear hrow
    go_wp2_with fail
    go_ret
    exact ⟨_, rfl, HR.out, hB⟩
  · obtain ⟨g, cu, rfl, hg⟩ : ∃ g c, u = .slice (some ⟨g, 0, none⟩) (r.length + 1) c ∧ w.heap.size ≤ g := by
      rcases hrow.2 with ⟨rfl, h⟩ | ⟨g, cap, cur, rfl, h, _⟩
      · cases h
      · exact ⟨_, _, rfl, h⟩
    obtain ⟨n, hn⟩ : ∃ n, n = r.length := ⟨_, rfl⟩
    have hst := (hrow.stored 5 (.bool false)).1
    rw [ks_bare] at hst
    have c5 : W.cell? ⟨g, 5, none⟩ = some (.bool t.bl) := by
      have := hrow.cells (g := g) rfl 5 (.bool t.bl) rfl
      rwa [add_none, Nat.zero_add] at this
    have f5 := hrow.frozenAt 5
    have HS := Lib.hid hst
    have HN := Lib.hid hn
    rw [← hn]
    clear hst hrow hn
    go_wp2_with fail
    go_ret
    exact ⟨_, rfl, by have := HS.out; rw [← HN.out] at this; simpa [← HN.out] using this, hB.setCell hg _⟩

set_option maxHeartbeats 2000000 in
set_option maxRecDepth 100000 in
theorem rbare_any (v : Value) (ts : List K) (w : World) (hv : Ks w v ts) (hl : ts.length * 56 ≤ 140737488355328) :
    Calls Tryd.prog 41 #[v] w (BarePost w ts) := by
  obtain ⟨i0, hi, hz0, hz1, hz2⟩ := info_parts infoTok
  obtain ⟨ad, cap, rfl, hc1, hc2, hc3⟩ := id hv
  have hrow : ∀ a, ad = some a → ∀ j u, (ksCells ts)[j]? = some u → w.cell? (a.add j) = some u := by
    rintro a rfl j u hj
    have hlt := (List.getElem?_eq_some_iff.1 hj).1
    rw [ksCells_length] at hlt
    obtain ⟨g, o, e, _⟩ := hc3 0 _ (List.getElem?_eq_getElem (by omega))
    injection e with e
    subst e
    rw [add_none]
    exact hv.row j u hj
  rcases ts with _ | ⟨t, r⟩
  · simp only [List.length_nil] at hc1
    clear hv hc3 hrow
    cases ad with
    | none =>
      go_enter Tryd.func41, Tryd.ntmps41
      go_wp2_with fail
      go_ret
      exact ⟨_, rfl, World.ownsRow_made w #[] 0 (Nat.le_refl _) (Nat.zero_le _) rfl, (Below.refl _ w).alloc (Nat.le_refl _) _⟩
    | some a =>
      go_enter Tryd.func41, Tryd.ntmps41
      go_wp2_with fail
      go_ret
      exact ⟨_, rfl, World.ownsRow_made w #[] 0 (Nat.le_refl _) (Nat.zero_le _) rfl, (Below.refl _ w).alloc (Nat.le_refl _) _⟩
  · obtain ⟨g0, o0, rfl, -⟩ := hv.cells (by simp)
    have HR := Lib.hid (hrow _ rfl)
    obtain ⟨n, hn⟩ : ∃ n, n = (t :: r).length := ⟨_, rfl⟩
    rw [← hn] at hl hc1
    have Hn := Lib.hid hn
    rw [← hn]
    clear hv hc3 hrow hn
    go_enter Tryd.func41, Tryd.ntmps41
    go_wp2_with (at_builtin; refine wpList_append_own _ rfl _ _ 24 rfl w.heap.size 39 i0 _ 6 56 Tryd.underlying24 hi hz0 hz1 hz2 rfl (by decide) _ _ _ rfl (World.ownsRow_made w #[] 0 (Nat.le_refl _) (Nat.zero_le _) rfl) ⟨g0, o0, none⟩ n cap (ksCells (t :: r)) rfl ?qc1 ?qc2 ?qc3 ?qc4 ?qc5 ?qc6 ?_)
    case qc1 => rw [ksCells_length, Hn.out]
    case qc2 => intro j u hj; exact Lib.cell?_alloc_some _ (HR.out j u hj)
    case qc3 => exact ksCells_one (t :: r)
    case qc4 => unfold maxLen; omega
    case qc5 => omega
    case qc6 => simp
    intro v' w1 hown hgrow hnil
    have hB : Below w.heap.size w w1 := ((Below.refl _ w).alloc (Nat.le_refl _) _).grown hgrow (by simp) (by intro k hk; simp [Value.ownBlock] at hk; omega)
    obtain ⟨g, cu, rfl, hg⟩ : ∃ g c, v' = .slice (some ⟨g, 0, none⟩) n c ∧ w.heap.size ≤ g := by
      rcases hown.2 with ⟨rfl, h⟩ | ⟨g, cap, cur, rfl, h, _⟩
      · rw [Hn.out] at h; cases h
      · exact ⟨_, _, rfl, h⟩
    have hst := (hown.stored 5 (.bool false)).1
    rw [ks_bare] at hst
    have c5 : w1.cell? ⟨g, 5, none⟩ = some (.bool t.bl) := by
      have := hown.cells (g := g) rfl 5 (.bool t.bl) rfl
      rwa [add_none, Nat.zero_add] at this
    have f5 := hown.frozenAt 5
    have HS := Lib.hid hst
    have hn0 : 0 < n := by rw [Hn.out]; simp
    clear hst hown
    have z1 : (0 : Int) < n := by omega
    go_wp2_with fail
    go_ret
    exact ⟨_, rfl, by rw [← Hn.out]; exact HS.out, hB.setCell hg _⟩
end Go.Proofs.YtfjbmenakcnadaaDoor
