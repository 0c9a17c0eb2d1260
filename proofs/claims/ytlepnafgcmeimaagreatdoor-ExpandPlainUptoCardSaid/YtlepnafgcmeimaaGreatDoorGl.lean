/- What is proved: list reads a list of parameters that is not empty. (and what stands with it) -/
import Derived.Test.YtlepnafgcmeimaaGreatDoorGk
import Derived.Laws.OwnMore
import Derived.Deep.Onto
import Derived.IntWalk
import Derived.Test.YtlepnafgcmeimaaGreatDoorGj
import Derived.Deep.AppendLies

/- What is proved: list reads a list of parameters that is not empty. -/
namespace Go.Proofs.YtlepnafgcmeimaaGreatDoor
open Go.RowKit Go.Shelf Go.WideMaps

section
variable {W : World} {base R mb : Nat} {nm : ByteArray} {fn va : Bool} {pv bv : Value} {ps : List ByteArray} {l : List K} {g o n cap : Nat}
theorem Rd.c0 {lv : Value} (h : Rd W base R mb nm fn pv ps va bv lv l) : W.cell? ⟨R, 0, none⟩ = some (.string nm) := (h.cell 0).trans rfl
theorem Rd.c1 {lv : Value} (h : Rd W base R mb nm fn pv ps va bv lv l) : W.cell? ⟨R, 1, none⟩ = some (.bool fn) := (h.cell 1).trans rfl
theorem Rd.c2 {lv : Value} (h : Rd W base R mb nm fn pv ps va bv lv l) : W.cell? ⟨R, 2, none⟩ = some pv := (h.cell 2).trans rfl
theorem Rd.c3 {lv : Value} (h : Rd W base R mb nm fn pv ps va bv lv l) : W.cell? ⟨R, 3, none⟩ = some (.bool va) := (h.cell 3).trans rfl
theorem Rd.c4 {lv : Value} (h : Rd W base R mb nm fn pv ps va bv lv l) : W.cell? ⟨R, 4, none⟩ = some bv := (h.cell 4).trans rfl
theorem Rd.c5 {lv : Value} (h : Rd W base R mb nm fn pv ps va bv lv l) : W.cell? ⟨R, 5, none⟩ = some lv := (h.cell 5).trans rfl
theorem Rd.tok (h : Rd W base R mb nm fn pv ps va bv (.slice (some ⟨g, o, none⟩) n cap) l) {i : Nat} {t : K} (ht : l[i]? = some t) : KAt W g (o + i * 6) t := by
  obtain ⟨g', o', cap', e, _, _, _, h3⟩ := h.lf
  injection e with e1 e2 e3
  injection e1 with e1
  injection e1 with e1 e4
  subst e1 e4
  exact h3 i t ht
end

def parGood (ps : List ByteArray) (t : K) : Bool := Mx.isP t Mx.EL || Mx.parOk ps t
def parPs (ps : List ByteArray) (t : K) : List ByteArray := if Mx.isP t Mx.EL then ps else ps ++ [t.text]
theorem plist_two (ps : List ByteArray) (a b : K) (r : List K) : Mx.plist ps (a :: b :: r) =
    if parGood ps a then (if Mx.isP b Mx.RP then some (parPs ps a, Mx.isP a Mx.EL, r) else if Mx.isP b Mx.CM && !Mx.isP a Mx.EL then Mx.plist (parPs ps a) r else none) else none := by
  rw [Mx.plist]
  unfold parGood parPs
  cases h1 : Mx.isP a Mx.EL <;> cases h2 : Mx.parOk ps a <;> cases h3 : Mx.isP b Mx.RP <;> cases h4 : Mx.isP b Mx.CM <;> simp
theorem parPs_len (ps : List ByteArray) (t : K) : (parPs ps t).length ≤ ps.length + 1 := by
  unfold parPs; split <;> simp
theorem isP_excl {t : K} {s u : ByteArray} (h : Mx.isP t s = true) (hne : ¬ s = u) : Mx.isP t u = false := by
  simp only [Mx.isP, Bool.and_eq_true, beq_iff_eq, decide_eq_true_iff] at h
  simp [Mx.isP, h.2, hne]

def leftLen (W : World) (R : Nat) : Nat := match W.cell? ⟨R, 5, none⟩ with | some (.slice _ n _) => n | _ => 0
theorem Rd.left {W : World} {base R mb : Nat} {nm : ByteArray} {fn va : Bool} {pv bv lv : Value} {ps : List ByteArray} {l : List K} (h : Rd W base R mb nm fn pv ps va bv lv l) : leftLen W R = l.length := by
  obtain ⟨g, o, cap, rfl, _⟩ := h.lf
  simp [leftLen, h.cell 5]

theorem param_good (base R mb : Nat) (nm : ByteArray) (fn : Bool) (pv : Value) (ps : List ByteArray) (bv lv : Value) (l : List K) (t : K) (w : World)
    (h : Rd w base R mb nm fn pv ps false bv lv l) (ht : parGood ps t = true) (hx : t.text.size ≤ maxLen) (hl : (ps.length + 1) * 16 ≤ 140737488355328) :
    Calls Tryz.prog 83 #[.pointer (some ⟨R, 0, none⟩), kAgg t] w fun e w' => e = .returned (.tuple #[]) ∧ ∃ pv, Rd w' base R mb nm fn pv (parPs ps t) (Mx.isP t Mx.EL) bv lv l ∧ Below base w w' := by
  unfold parGood parPs at *
  cases he : Mx.isP t Mx.EL with
  | true => exact (param_el base R mb nm fn pv ps bv lv l t w h he (by unfold maxLen; omega)).mono fun e w' ⟨h1, h2, h3⟩ => ⟨h1, pv, h2, h3⟩
  | false => exact (param_id base R mb nm fn pv ps bv lv l t w h he (by simpa [he] using ht) hx hl).mono fun e w' ⟨h1, pv', h2, h3⟩ => ⟨h1, pv', h2, h3⟩

def ListPost (base R mb : Nat) (nm : ByteArray) (fn : Bool) (bv : Value) (w : World) (res : Option (List ByteArray × Bool × List K)) (e : Ending) (w' : World) : Prop :=
  (res = none ∧ e = thrown 61 ∧ Below base w w') ∨ ∃ ps va l, res = some (ps, va, l) ∧ e = .returned (.tuple #[]) ∧ ∃ pv lv, Rd w' base R mb nm fn pv ps va bv lv l ∧ Below base w w'

def ListRel (base R mb : Nat) (nm : ByteArray) (fn : Bool) (bv : Value) (N : Nat) (w : World) (res : Option (List ByteArray × Bool × List K)) (b : Bool) (m : Nat) (wr : World) : Prop :=
  Below base w wr ∧ ∃ ps va l pv lv, Rd wr base R mb nm fn pv ps va bv lv l ∧ l.length = m ∧ ps.length + l.length ≤ N ∧ (∀ t ∈ l, t.text.size ≤ maxLen) ∧ ((b = false ∧ va = false ∧ Mx.plist ps l = res) ∨ (b = true ∧ res = some (ps, va, l)))

set_option maxRecDepth 100000 in
set_option maxHeartbeats 8000000 in
theorem list_any (base R mb : Nat) (nm : ByteArray) (fn : Bool) (pv : Value) (ps : List ByteArray) (bv lv : Value) (l : List K) (N : Nat) (w : World)
    (h : Rd w base R mb nm fn pv ps false bv lv l) (hx : ∀ t ∈ l, t.text.size ≤ maxLen) (hN : ps.length + l.length ≤ N) (hl : N * 56 ≤ 140737488355328) :
    Calls Tryz.prog 69 #[.pointer (some ⟨R, 0, none⟩)] w (ListPost base R mb nm fn bv w (Mx.plist ps l)) := by
  obtain ⟨res, hres⟩ : ∃ res, res = Mx.plist ps l := ⟨_, rfl⟩
  rw [← hres]
  go_enter Tryz.func69, Tryz.ntmps69
  go_wp2_with fail
  go_loopw [2] (fun b wr => ∃ bb m, b = .bool bb ∧ ListRel base R mb nm fn bv N w res bb m wr) (fun _ wr => leftLen wr R)
  case atStart => exact ⟨false, _, rfl, Below.refl _ _, ps, false, l, pv, lv, h, rfl, hN, hx, .inl ⟨rfl, rfl, hres.symm⟩⟩
  case round =>
    obtain ⟨bb, m, rfl, hB, ps', va, l', pv', lv', hr, rfl, hN', hx', hcase⟩ := hrel
    rcases hcase with ⟨rfl, rfl, hp⟩ | ⟨rfl, hp⟩
    · rcases l' with _ | ⟨a, _ | ⟨b, r⟩⟩
      · obtain ⟨g, o, cap, rfl, h1, h2, hg, -⟩ := id hr.lf
        have c5 := hr.c5
        simp only [List.length_nil] at c5 h1
        go_wp2_with fail
        refine (must_no 61 _).mono ?_
        rintro e W1 ⟨rfl, rfl⟩
        exact ⟨rfl, .inl ⟨by rw [← hp]; rfl, rfl, hB⟩⟩
      · obtain ⟨g, o, cap, rfl, h1, h2, hg, -⟩ := id hr.lf
        have c5 := hr.c5
        simp only [List.length_cons, List.length_nil] at c5 h1
        go_wp2_with fail
        refine (must_no 61 _).mono ?_
        rintro e W1 ⟨rfl, rfl⟩
        exact ⟨rfl, .inl ⟨by rw [← hp]; rfl, rfl, hB⟩⟩
      · obtain ⟨g, o, cap, rfl, hc1, hc2, hg, -⟩ := id hr.lf
        have c5 := hr.c5
        have ka := hr.tok (i := 0) rfl
        have hxa := hx' a (by simp)
        rw [plist_two] at hp
        simp only [List.length_cons] at c5 hc1
        obtain ⟨n, hn⟩ : ∃ n, n = r.length := ⟨_, rfl⟩
        rw [← hn] at c5 hc1
        have z1 : (2 : Int) ≤ (n : Int) + 1 + 1 := by omega
        obtain ⟨a0, a1, a2, a3, a4, a5⟩ := ka
        simp only [Nat.zero_mul, Nat.add_zero] at a0 a1 a2 a3 a4 a5
        have hps : (ps'.length + 1) * 16 ≤ 140737488355328 := by simp only [List.length_cons] at hN'; omega
        have HN := Lib.hid hn
        have HP := Lib.hid hp
        have HR := Lib.hid hr
        have HX := Lib.hid hx'
        have HN' := Lib.hid hN'
        clear hn hp hr hx' hN'
        go_wp2_with fail
        refine (must_ok 61 _).mono ?_
        rintro e W1 ⟨rfl, hW⟩
        subst hW
        go_wp2_with fail
        cases hgd : parGood ps' a with
        | false =>
          have hq : Mx.isP a Mx.EL = false ∧ Mx.parOk ps' a = false := by simpa [parGood] using hgd
          refine (param_bad base R mb nm fn pv' ps' bv _ _ a _ HR.out hq.1 hq.2 hxa).mono ?_
          rintro e W2 ⟨rfl, hB2⟩
          exact ⟨rfl, .inl ⟨by rw [← HP.out, hgd]; rfl, rfl, hB.trans hB2⟩⟩
        | true =>
          have hlen : (parPs ps' a).length + r.length ≤ N := by have := parPs_len ps' a; have := HN'.out; simp only [List.length_cons] at this; omega
          have hxr : ∀ t ∈ r, t.text.size ≤ maxLen := fun t ht => HX.out t (by simp [ht])
          refine (param_good base R mb nm fn pv' ps' bv _ _ a _ HR.out hgd hxa hps).mono ?_
          rintro e W2 ⟨rfl, pv2, h2, hB2⟩
          replace hB := hB.trans hB2
          obtain ⟨q3, hq3⟩ : ∃ q, q = Mx.isP a Mx.EL := ⟨_, rfl⟩
          obtain ⟨q1, hq1⟩ : ∃ q, q = Mx.isP b Mx.RP := ⟨_, rfl⟩
          obtain ⟨q2, hq2⟩ : ∃ q, q = Mx.isP b Mx.CM := ⟨_, rfl⟩
          obtain ⟨ps2, hps2⟩ : ∃ q, q = parPs ps' a := ⟨_, rfl⟩
          have hp := HP.out
          rw [hgd, ← hq3, ← hq1, ← hq2, ← hps2] at hp
          simp only [if_true] at hp
          rw [← hq3, ← hps2] at h2
          rw [← hps2] at hlen
          have k1 := msign_any b Mx.RP
          have k2 := msign_any b Mx.CM
          rw [← hq1] at k1
          rw [← hq2] at k2
          have HP2 := Lib.hid hp
          clear hp HP hq1 hq2 hq3 hps2
          have c5' := h2.c5
          have kb := h2.tok (i := 1) rfl
          simp only [List.length_cons, ← HN.out] at c5'
          obtain ⟨b0, b1, b2, b3, b4, b5⟩ := kb
          simp only [Nat.one_mul] at b0 b1 b2 b3 b4 b5
          clear c5 a0 a1 a2 a3 a4 a5
          go_wp2_with fail
          refine (k1 _).mono ?_
          rintro e W3 ⟨rfl, hB3⟩
          have h3 := h2.keep hB3
          replace hB := hB.trans (hB3.mono h2.big)
          clear c5' b0 b1 b2 b3 b4 b5
          have c5' := h3.c5
          have kb := h3.tok (i := 1) rfl
          simp only [List.length_cons, ← HN.out] at c5'
          obtain ⟨b0, b1, b2, b3, b4, b5⟩ := kb
          simp only [Nat.one_mul] at b0 b1 b2 b3 b4 b5
          go_wp2_with fail
          refine (k2 _).mono ?_
          rintro e W4 ⟨rfl, hB4⟩
          have h4 := h3.keep hB4
          replace hB := hB.trans (hB4.mono h3.big)
          clear c5' b0 b1 b2 b3 b4 b5
          have c5' := h4.c5
          have c3' := h4.c3
          have f5 := h4.froz 5
          have hRl := h4.ltR
          simp only [List.length_cons, ← HN.out] at c5'
          cases q1 with
          | true =>
            cases q2 with
            | true =>
              go_wp2_with fail
              refine (must_ok 61 _).mono ?_
              rintro e W5 ⟨rfl, hW⟩
              subst hW
              rcases Decidable.em (cap = 2) with hcap | hcap
              · subst hcap
                obtain rfl : n = 0 := by omega
                have hL := h4.setLeft (Lf.tl2 (n := 0) (by simpa [← HN.out] using h4.lf) 0 (by omega))
                simp only [Nat.add_zero, Nat.sub_self] at hL
                go_wp2_with fail
                go_roundw
                case rel => exact ⟨true, _, rfl, hB.setCell h4.hR _, _, _, _, _, _, hL, rfl, hlen, hxr, .inr ⟨rfl, HP2.out.symm⟩⟩
                case measure => simp only [hL.left, HR.out.left, List.length_cons]; omega
              · have hL := h4.setLeft (Lf.tl2 (n := n) (by rw [HN.out]; exact h4.lf) 12 (by omega))
                go_wp2_with fail
                go_roundw
                case rel => exact ⟨true, _, rfl, hB.setCell h4.hR _, _, _, _, _, _, hL, rfl, hlen, hxr, .inr ⟨rfl, HP2.out.symm⟩⟩
                case measure => simp only [hL.left, HR.out.left, List.length_cons]; omega
            | false =>
              go_wp2_with fail
              refine (must_ok 61 _).mono ?_
              rintro e W5 ⟨rfl, hW⟩
              subst hW
              rcases Decidable.em (cap = 2) with hcap | hcap
              · subst hcap
                obtain rfl : n = 0 := by omega
                have hL := h4.setLeft (Lf.tl2 (n := 0) (by simpa [← HN.out] using h4.lf) 0 (by omega))
                simp only [Nat.add_zero, Nat.sub_self] at hL
                go_wp2_with fail
                go_roundw
                case rel => exact ⟨true, _, rfl, hB.setCell h4.hR _, _, _, _, _, _, hL, rfl, hlen, hxr, .inr ⟨rfl, HP2.out.symm⟩⟩
                case measure => simp only [hL.left, HR.out.left, List.length_cons]; omega
              · have hL := h4.setLeft (Lf.tl2 (n := n) (by rw [HN.out]; exact h4.lf) 12 (by omega))
                go_wp2_with fail
                go_roundw
                case rel => exact ⟨true, _, rfl, hB.setCell h4.hR _, _, _, _, _, _, hL, rfl, hlen, hxr, .inr ⟨rfl, HP2.out.symm⟩⟩
                case measure => simp only [hL.left, HR.out.left, List.length_cons]; omega
          | false =>
            cases q2 with
            | true =>
              cases q3 with
              | true =>
                go_wp2_with fail
                refine (must_no 61 _).mono ?_
                rintro e W5 ⟨rfl, hW⟩
                subst hW
                exact ⟨rfl, .inl ⟨HP2.out.symm, rfl, hB⟩⟩
              | false =>
                go_wp2_with fail
                refine (must_ok 61 _).mono ?_
                rintro e W5 ⟨rfl, hW⟩
                subst hW
                rcases Decidable.em (cap = 2) with hcap | hcap
                · subst hcap
                  obtain rfl : n = 0 := by omega
                  have hL := h4.setLeft (Lf.tl2 (n := 0) (by simpa [← HN.out] using h4.lf) 0 (by omega))
                  simp only [Nat.add_zero, Nat.sub_self] at hL
                  go_wp2_with fail
                  go_roundw
                  case rel => exact ⟨false, _, rfl, hB.setCell h4.hR _, _, _, _, _, _, hL, rfl, hlen, hxr, .inl ⟨rfl, rfl, HP2.out⟩⟩
                  case measure => simp only [hL.left, HR.out.left, List.length_cons]; omega
                · have hL := h4.setLeft (Lf.tl2 (n := n) (by rw [HN.out]; exact h4.lf) 12 (by omega))
                  go_wp2_with fail
                  go_roundw
                  case rel => exact ⟨false, _, rfl, hB.setCell h4.hR _, _, _, _, _, _, hL, rfl, hlen, hxr, .inl ⟨rfl, rfl, HP2.out⟩⟩
                  case measure => simp only [hL.left, HR.out.left, List.length_cons]; omega
            | false =>
              go_wp2_with fail
              refine (must_no 61 _).mono ?_
              rintro e W5 ⟨rfl, hW⟩
              subst hW
              exact ⟨rfl, .inl ⟨HP2.out.symm, rfl, hB⟩⟩
    · go_wp2_with fail
      go_end0
      exact .inr ⟨ps', va, l', hp, rfl, pv', lv', hr, hB⟩
end Go.Proofs.YtlepnafgcmeimaaGreatDoor

/- What is proved: brackets reads what stands behind the name. -/
namespace Go.Proofs.YtlepnafgcmeimaaGreatDoor
open Go.RowKit Go.Shelf Go.WideMaps

def BrPost (base R mb : Nat) (nm : ByteArray) (bv : Value) (w : World) (res : Except Int (Bool × List ByteArray × Bool × List K)) (e : Ending) (w' : World) : Prop :=
  (∃ err, res = .error err ∧ e = thrown err ∧ Below base w w') ∨ ∃ fn ps va l, res = .ok (fn, ps, va, l) ∧ e = .returned (.tuple #[]) ∧ ∃ pv lv, Rd w' base R mb nm fn pv ps va bv lv l ∧ Below base w w'

set_option maxRecDepth 100000 in
set_option maxHeartbeats 2000000 in
theorem brackets_any (base R mb : Nat) (nm : ByteArray) (pv bv lv : Value) (r : List K) (w : World)
    (h : Rd w base R mb nm false pv [] false bv lv r) (hx : ∀ t ∈ r, t.text.size ≤ maxLen) (hl : r.length * 56 ≤ 140737488355328) :
    Calls Tryz.prog 46 #[.pointer (some ⟨R, 0, none⟩)] w (BrPost base R mb nm bv w (Mx.brack r)) := by
  obtain ⟨res, hres⟩ : ∃ res, res = Mx.brack r := ⟨_, rfl⟩
  rw [← hres]
  have hbR := h.hR
  have f1 := h.froz 1
  have f5 := h.froz 5
  have c1 := h.c1
  have c5 := h.c5
  have hRl := h.ltR
  rcases r with _ | ⟨u, r⟩
  · obtain ⟨g, o, cap, rfl, h1, h2, hg, -⟩ := id h.lf
    simp only [List.length_nil] at c5 h1
    go_enter Tryz.func46, Tryz.ntmps46
    go_wp2_with fail
    refine bodyPost_ret (results_none rfl _ _ _) rfl ?_
    exact .inr ⟨_, _, _, _, hres, rfl, pv, _, h, Below.refl _ _⟩
  · obtain ⟨g, o, cap, rfl, hc1, hc2, hg, -⟩ := id h.lf
    have ku := h.tok (i := 0) rfl
    have hgR : ¬ g = R := by omega
    have hRg : ¬ R = g := by omega
    have ks := msign_any u Mx.LP
    obtain ⟨a0, a1, a2, a3, a4, a5⟩ := ku
    simp only [Nat.zero_mul, Nat.add_zero] at a0 a1 a2 a3 a4 a5
    simp only [List.length_cons] at c5 hc1 hl
    obtain ⟨n, hn⟩ : ∃ n, n = r.length := ⟨_, rfl⟩
    rw [← hn] at c5 hc1 hl
    have HN := Lib.hid hn
    have HH := Lib.hid h
    have HX := Lib.hid hx
    have HRES := Lib.hid hres
    clear hn h hx hres
    cases hbl : u.bl with
    | true =>
      rw [hbl] at a5
      go_enter Tryz.func46, Tryz.ntmps46
      go_wp2_with fail
      refine bodyPost_ret (results_none rfl _ _ _) rfl ?_
      exact .inr ⟨_, _, _, _, by rw [HRES.out]; simp [Mx.brack, hbl], rfl, pv, _, HH.out, Below.refl _ _⟩
    | false =>
      rw [hbl] at a5
      cases hlp : Mx.isP u Mx.LP with
      | false =>
        rw [hlp] at ks
        simp only [kAgg, hbl] at ks
        have HE0 : res = .error 62 := by rw [HRES.out]; simp [Mx.brack, hbl, hlp]
        have HE := Lib.hid HE0
        clear HE0
        clear hbl hlp
        go_enter Tryz.func46, Tryz.ntmps46
        go_wp2_with fail
        refine (ks _).mono ?_
        rintro e W1 ⟨rfl, hB⟩
        go_wp2_with fail
        refine (must_no 62 _).mono ?_
        rintro e W2 ⟨rfl, hW⟩
        subst hW
        exact ⟨rfl, .inl ⟨62, HE.out, rfl, hB.mono HH.out.big⟩⟩
      | true =>
        rw [hlp] at ks
        simp only [kAgg, hbl] at ks
        go_enter Tryz.func46, Tryz.ntmps46
        go_wp2_with fail
        refine (ks _).mono ?_
        rintro e W1 ⟨rfl, hB⟩
        have h1 := HH.out.keep hB
        replace hB := hB.mono HH.out.big
        clear c1 c5 a0 a1 a2 a3 a4 a5 f1 f5 hRl
        go_wp2_with fail
        refine (must_ok 62 _).mono ?_
        rintro e W2 ⟨rfl, hW⟩
        subst hW
        have c1 := h1.c1
        have f1 := h1.froz 1
        have f5 := h1.froz 5
        have c5 := h1.c5
        have hRl := h1.ltR
        simp only [List.length_cons, ← HN.out] at c5
        rcases r with _ | ⟨c, r⟩
        · obtain rfl : n = 0 := HN.out
          have HE0 : res = .error 61 := by rw [HRES.out]; simp [Mx.brack, hbl, hlp]
          have HE := Lib.hid HE0
          clear HE0
          clear hbl hlp
          obtain ⟨d, rfl⟩ : ∃ d, cap = d + 1 := ⟨cap - 1, by omega⟩
          rcases Decidable.em (d = 0) with rfl | hd
          · have h2 := (h1.setFn true).setLeft (Lf.tl (n := 0) (h1.setFn true).lf 0 (by omega))
            go_wp2_with fail
            refine (list_any base R mb nm true pv [] bv _ [] 0 _ h2 (by simp) (by simp) (by omega)).mono ?_
            rintro e W3 (⟨-, rfl, hB3⟩ | ⟨ps, va, l, he, -⟩)
            · exact ⟨rfl, .inl ⟨61, HE.out, rfl, ((hB.setCell hbR _).setCell hbR _).trans hB3⟩⟩
            · cases he
          · have h2 := (h1.setFn true).setLeft (Lf.tl (n := 0) (h1.setFn true).lf 6 (by omega))
            go_wp2_with fail
            refine (list_any base R mb nm true pv [] bv _ [] 0 _ h2 (by simp) (by simp) (by omega)).mono ?_
            rintro e W3 (⟨-, rfl, hB3⟩ | ⟨ps, va, l, he, -⟩)
            · exact ⟨rfl, .inl ⟨61, HE.out, rfl, ((hB.setCell hbR _).setCell hbR _).trans hB3⟩⟩
            · cases he
        · obtain ⟨m, hm⟩ : ∃ m, m = r.length := ⟨_, rfl⟩
          obtain rfl : n = m + 1 := by rw [HN.out, hm]; rfl
          obtain ⟨d, rfl⟩ : ∃ d, cap = d + 2 := ⟨cap - 2, by omega⟩
          have HB56 := Lib.hid (show (m + 1) * 56 ≤ 140737488355328 from Nat.le_trans (Nat.mul_le_mul_right 56 (Nat.le_succ _)) hl)
          have HBM := Lib.hid (show ([] : List ByteArray).length + (c :: r).length ≤ m + 1 by simp [← hm])
          have HM := Lib.hid hm
          clear hm
          have kc := h1.tok (i := 1) rfl
          obtain ⟨b0, b1, b2, b3, b4, b5⟩ := kc
          simp only [Nat.one_mul] at b0 b1 b2 b3 b4 b5
          have h2 := (h1.setFn true).setLeft (Lf.tl (n := m + 1) (cap := d + 2) (by rw [HM.out]; exact (h1.setFn true).lf) 6 (by omega))
          simp only [show d + 2 - 1 = d + 1 from rfl] at h2
          have kq := msign_any c Mx.RP
          have HX1 : ∀ t ∈ c :: r, t.text.size ≤ maxLen := fun t ht => HX.out t (List.mem_cons_of_mem _ ht)
          have HX2 := Lib.hid HX1
          have hHB := Lib.hid ((hB.setCell (p := ⟨R, 1, none⟩) hbR (.bool true)).setCell (p := ⟨R, 5, none⟩) hbR (.slice (some ⟨g, o + 6, none⟩) (m + 1) (d + 1)))
          clear HX1 HX hB
          cases hrp : Mx.isP c Mx.RP with
          | true =>
            rw [hrp] at kq
            have HE0 : res = .ok (true, [], false, r) := by rw [HRES.out]; simp [Mx.brack, hbl, hlp, hrp]
            have HE := Lib.hid HE0
            clear HE0 hbl hlp hrp
            go_wp2_with fail
            refine (kq _).mono ?_
            rintro e W3 ⟨rfl, hB3⟩
            have h3 := h2.keep hB3
            have hB' := hHB.out.trans (hB3.mono h2.big)
            have c5 := h3.c5
            have f5 := h3.froz 5
            have hRl := h3.ltR
            clear b0 b1 b2 b3 b4 b5
            rcases Decidable.em (d = 0) with rfl | hd
            · obtain rfl : m = 0 := by omega
              have hL := h3.setLeft (Lf.tl (n := 0) (by simpa [← HM.out] using h3.lf) 0 (by omega))
              go_wp2_with fail
              refine bodyPost_ret (results_none rfl _ _ _) rfl ?_
              exact .inr ⟨_, _, _, _, HE.out, rfl, pv, _, hL, hB'.setCell hbR _⟩
            · have hL := h3.setLeft (Lf.tl (n := m) h3.lf 6 (by omega))
              go_wp2_with fail
              refine bodyPost_ret (results_none rfl _ _ _) rfl ?_
              exact .inr ⟨_, _, _, _, HE.out, rfl, pv, _, hL, hB'.setCell hbR _⟩
          | false =>
            rw [hrp] at kq
            have HE0 : Mx.plist [] (c :: r) = none → res = .error 61 := fun h => by rw [HRES.out]; simp [Mx.brack, hbl, hlp, hrp, h]
            have HE1 : ∀ ps va l, Mx.plist [] (c :: r) = some (ps, va, l) → res = .ok (true, ps, va, l) := fun ps va l h => by rw [HRES.out]; simp [Mx.brack, hbl, hlp, hrp, h]
            have HE := Lib.hid HE0
            have HF := Lib.hid HE1
            clear HE1
            clear HE0 hbl hlp hrp
            go_wp2_with fail
            refine (kq _).mono ?_
            rintro e W3 ⟨rfl, hB3⟩
            have h3 := h2.keep hB3
            have hB' := hHB.out.trans (hB3.mono h2.big)
            clear b0 b1 b2 b3 b4 b5
            go_wp2_with fail
            refine (list_any base R mb nm true pv [] bv _ (c :: r) (m + 1) _ h3 HX2.out HBM.out HB56.out).mono ?_
            rintro e W4 (⟨he, rfl, hB4⟩ | ⟨ps, va, l, he, rfl, pv', lv', h4, hB4⟩)
            · exact ⟨rfl, .inl ⟨61, HE.out he, rfl, hB'.trans hB4⟩⟩
            · go_wp2_with fail
              refine bodyPost_end (results_none rfl _ _ _) rfl ?_
              exact .inr ⟨true, ps, va, l, HF.out _ _ _ he, rfl, pv', lv', h4, hB'.trans hB4⟩
end Go.Proofs.YtlepnafgcmeimaaGreatDoor

/- What is proved: what bare tells, the program's own and the document's. -/
namespace Go.Proofs.YtlepnafgcmeimaaGreatDoor
open Go.RowKit Go.Shelf

theorem eql_toks (w : World) (a : Option Addr) (n c n' c' : Nat) : (binOp .eql 27 (.slice a n c) (.slice none n' c')).run Tryz.prog w = .ok (.bool a.isNone) w := Lib.run_eql_slice_nil w _ _ a n c n' c' Tryz.underlying27

/-- The cells of tokens, one behind the other. -/
theorem Ks.row {W : World} {g o n cap : Nat} {ts : List K} (h : Ks W (.slice (some ⟨g, o, none⟩) n cap) ts) : ∀ j u, (ksCells ts)[j]? = some u → W.cell? ⟨g, o + j, none⟩ = some u := by
  intro j u hj
  have hlt := (List.getElem?_eq_some_iff.1 hj).1
  rw [ksCells_length] at hlt
  have hi : j / 6 < ts.length := by omega
  obtain ⟨g', o', e, c⟩ : ∃ g' o', (some (⟨g, o, none⟩ : Addr)) = some ⟨g', o', none⟩ ∧ KAt W g' (o' + j / 6 * 6) ts[j / 6] := by
    obtain ⟨ad', cap', e, _, _, h3⟩ := h
    injection e with e1 e2 e3
    subst e1
    exact h3 _ _ (List.getElem?_eq_getElem hi)
  injection e with e
  injection e with e1 e2
  subst e1 e2
  have hm : j % 6 < 6 := Nat.mod_lt _ (by omega)
  have hj6 : j = j / 6 * 6 + j % 6 := by omega
  obtain ⟨t, ht⟩ : ∃ t, t = ts[j / 6] := ⟨_, rfl⟩
  rw [← ht] at c
  have hg : ts[j / 6]? = some t := by rw [ht]; exact List.getElem?_eq_getElem hi
  obtain ⟨q, hq⟩ : ∃ q, q = j / 6 := ⟨_, rfl⟩
  obtain ⟨r, hr⟩ : ∃ r, r = j % 6 := ⟨_, rfl⟩
  rw [← hq] at c hg hj6
  rw [← hr] at hm hj6
  clear hq hr ht hi hlt
  subst hj6
  have key := fun v hv => ksCells_get ts q t hg r v hv
  have hr6 : r < (kCells t).length := hm
  have e3 := key _ (List.getElem?_eq_getElem hr6)
  rw [hj] at e3
  obtain rfl := Option.some.inj e3
  obtain ⟨c0, c1, c2, c3, c4, c5⟩ := c
  have h6 : r = 0 ∨ r = 1 ∨ r = 2 ∨ r = 3 ∨ r = 4 ∨ r = 5 := by omega
  rw [← Nat.add_assoc]
  rcases h6 with rfl | rfl | rfl | rfl | rfl | rfl
  · exact c0
  · exact c1
  · exact c2
  · exact c3
  · exact c4
  · exact c5

set_option maxHeartbeats 4000000 in
set_option maxRecDepth 100000 in
/-- Clone: new memory that holds the same tokens. -/
theorem clone_any (v : Value) (ts : List K) (w : World) (hv : Ks w v ts) (hl : ts.length * 56 ≤ 140737488355328) :
    Calls Tryz.prog 84 #[v] w fun e w' => ∃ u, e = .returned u ∧ w'.ownsRow w.heap.size 30 6 u ts.length (ksCells ts) ∧ Below w.heap.size w w' := by
  obtain ⟨i0, hi, hz0, hz1, hz2⟩ := info_parts infoTok
  obtain ⟨ad, cap, rfl, hc1, hc2, hc3⟩ := id hv
  cases ad with
  | none =>
    have h0 : ts = [] := by
      cases ts with
      | nil => rfl
      | cons t r => obtain ⟨g, o, e, _⟩ := hc3 0 t rfl; cases e
    subst h0
    have q := eql_toks
    clear hv hc3
    go_enter Tryz.func84, Tryz.ntmps84
    go_wp2_with fail
    go_ret
    exact ⟨_, rfl, World.ownsRow_nil _ _ _ _, Below.refl _ _⟩
  | some a =>
    have q := eql_toks
    have hrow : ∀ j u, (ksCells ts)[j]? = some u → w.cell? (a.add j) = some u := by
      intro j u hj
      have hlt := (List.getElem?_eq_some_iff.1 hj).1
      rw [ksCells_length] at hlt
      obtain ⟨g, o, e, _⟩ := hc3 0 _ (List.getElem?_eq_getElem (by omega))
      injection e with e
      subst e
      rw [add_none]
      exact hv.row j u hj
    have HR := Lib.hid hrow
    obtain ⟨n, hn⟩ : ∃ n, n = ts.length := ⟨_, rfl⟩
    rw [← hn] at hl hc1 ⊢
    have Hn := Lib.hid hn
    clear hv hc3 hrow hn
    go_enter Tryz.func84, Tryz.ntmps84
    go_wp2_with (at_builtin; refine wpList_append_own _ rfl _ _ 27 rfl w.heap.size 30 i0 _ 6 56 Tryz.underlying27 hi hz0 hz1 hz2 rfl (by decide) _ _ _ rfl (World.ownsRow_made w #[] 0 (Nat.le_refl _) (Nat.zero_le _) rfl) a n cap (ksCells ts) rfl ?qc1 ?qc2 ?qc3 ?qc4 ?qc5 ?qc6 ?_)
    case qc1 => rw [ksCells_length, Hn.out]
    case qc2 => intro j u hj; exact Lib.cell?_alloc_some _ (HR.out j u hj)
    case qc3 => exact ksCells_one ts
    case qc4 => unfold maxLen; omega
    case qc5 => omega
    case qc6 => simp
    intro v' w1 hown hgrow hnil
    go_wp2_with fail
    go_ret
    exact ⟨v', rfl, hown, ((Below.refl _ w).alloc (Nat.le_refl _) _).grown hgrow (by simp) (by intro k hk; simp [Value.ownBlock] at hk; omega)⟩


/-- A bare body of new memory. -/
def BarePost (w : World) (ts : List K) (e : Ending) (w' : World) : Prop := ∃ u, e = .returned u ∧ w'.ownsRow w.heap.size 30 6 u ts.length (ksCells (Mx.bare ts)) ∧ Below w.heap.size w w'

theorem ks_bare (t : K) (r : List K) : (ksCells (t :: r)).set 5 (.bool false) = ksCells (Mx.bare (t :: r)) := rfl
theorem bare_len (l : List K) : (Mx.bare l).length = l.length := by cases l <;> rfl

set_option maxHeartbeats 2000000 in
set_option maxRecDepth 100000 in
theorem bare_any (v : Value) (ts : List K) (w : World) (hv : Ks w v ts) (hl : ts.length * 56 ≤ 140737488355328) :
    Calls Tryz.prog 71 #[v] w (BarePost w ts) := by
  obtain ⟨ad, cap, rfl, hc1, hc2, hc3⟩ := id hv
  have HV := Lib.hid hv
  have HL := Lib.hid hl
  clear hv hc3 hc1 hl
  go_enter Tryz.func71, Tryz.ntmps71
  go_wp2_with fail
  refine (clone_any _ ts _ HV.out HL.out).mono ?_
  rintro e W ⟨u, rfl, hrow, hB⟩
  rcases ts with _ | ⟨t, r⟩
  · obtain ⟨au, nu, cu, rfl⟩ : ∃ a n c, u = .slice a n c := by
      rcases hrow.2 with ⟨rfl, _⟩ | ⟨g, cap, cur, rfl, _⟩
      · exact ⟨_, _, _, rfl⟩
      · exact ⟨_, _, _, rfl⟩
    have hn0 : nu = 0 := by
      rcases hrow.2 with ⟨h, _⟩ | ⟨g, cap, cur, h, _⟩ <;> (injection h with _ h _)
    subst hn0
    have HR := Lib.hid hrow
    clear hrow
    go_wp2_with fail
    go_ret
    exact ⟨_, rfl, HR.out, hB⟩
  · obtain ⟨g, cu, rfl, hg⟩ : ∃ g c, u = .slice (some ⟨g, 0, none⟩) (r.length + 1) c ∧ w.heap.size ≤ g := by
      rcases hrow.2 with ⟨rfl, h⟩ | ⟨g, cap, cur, rfl, h, _⟩
      · cases h
      · exact ⟨_, _, rfl, h⟩
    obtain ⟨n, hn⟩ : ∃ n, n = r.length := ⟨_, rfl⟩
    have hst := (hrow.stored 5 (.bool false)).1
    rw [ks_bare] at hst
    have c5 : W.cell? ⟨g, 5, none⟩ = some (.bool t.bl) := by
      have := hrow.cells (g := g) rfl 5 (.bool t.bl) rfl
      rwa [add_none, Nat.zero_add] at this
    have f5 := hrow.frozenAt 5
    have HS := Lib.hid hst
    have HN := Lib.hid hn
    rw [← hn]
    clear hst hrow hn
    go_wp2_with fail
    go_ret
    exact ⟨_, rfl, by have := HS.out; rw [← HN.out] at this; simpa [← HN.out] using this, hB.setCell hg _⟩

end Go.Proofs.YtlepnafgcmeimaaGreatDoor

/- What is proved: body reads what is left. -/
namespace Go.Proofs.YtlepnafgcmeimaaGreatDoor
open Go.RowKit Go.Shelf Go.WideMaps

namespace Mx
def bodyErr (fn : Bool) (ps : List ByteArray) (va : Bool) (l : List K) : Option Int :=
  if l = [] then none else if pasteBad l then some 63 else if fn && hashBad ps va l then some 64 else if !va && vaIn l then some 65 else none
theorem bodyOf_err (nm : ByteArray) (fn : Bool) (ps : List ByteArray) (va : Bool) (l : List K) :
    bodyOf nm fn ps va l = match bodyErr fn ps va l with | none => (⟨nm, fn, ps, va, bare l⟩, 0) | some e => (.zero, e) := by
  unfold bodyOf bodyErr
  by_cases h : l = []
  · subst h; rfl
  · simp only [h, if_false]
    split
    · rfl
    · split
      · rfl
      · split <;> rfl
def hashHere (ps : List ByteArray) (va : Bool) (t : K) (r : List K) : Bool := isP t HS && !(match r with | [] => false | u :: _ => known ps va u)
theorem hashBad_cons (ps : List ByteArray) (va : Bool) (t : K) (r : List K) : hashBad ps va (t :: r) = (hashHere ps va t r || hashBad ps va r) := by
  cases r with
  | nil => simp [hashBad, hashHere]
  | cons u r => rfl
theorem vaIn_cons (t : K) (r : List K) : vaIn (t :: r) = ((t.kind == 1 && decide (t.text = VA)) || vaIn r) := rfl
theorem paste_two (t : K) (r : List K) (z : K) (hz : (t :: r)[r.length]? = some z) : pasteBad (t :: r) = (isP t HH || isP z HH) := by
  unfold pasteBad
  have : (t :: r).getLast? = some z := by rw [List.getLast?_eq_getElem?]; exact hz
  rw [this]; rfl
end Mx

theorem row_slice {w : World} {base e sz n : Nat} {v : Value} {xs : List Value} (h : w.ownsRow base e sz v n xs) : ∃ a m c, v = .slice a m c := by
  rcases h.2 with ⟨h', _⟩ | ⟨g, cap, cur, h', _⟩
  · exact ⟨_, _, _, h'⟩
  · exact ⟨_, _, _, h'⟩
theorem drop_cons_of {l : List K} {k : Nat} {t : K} (h : l[k]? = some t) : l.drop k = t :: l.drop (k + 1) := by
  obtain ⟨hk, e⟩ := List.getElem?_eq_some_iff.1 h
  rw [← e]; exact List.drop_eq_getElem_cons hk

def BodyPost (base R mb : Nat) (nm : ByteArray) (fn : Bool) (ps : List ByteArray) (va : Bool) (l : List K) (w : World) (res : Option Int) (e : Ending) (w' : World) : Prop :=
  (∃ err, res = some err ∧ e = thrown err ∧ Below base w w') ∨ (res = none ∧ e = .returned (.tuple #[]) ∧ ∃ pv bv lv, Rd w' base R mb nm fn pv ps va bv lv l ∧ w'.ownsRow base 30 6 bv l.length (ksCells (Mx.bare l)) ∧ Below base w w')

set_option maxRecDepth 100000 in
set_option maxHeartbeats 4000000 in
theorem body_any (base R mb : Nat) (nm : ByteArray) (fn : Bool) (pv : Value) (ps : List ByteArray) (va : Bool) (lv : Value) (l : List K) (w : World)
    (h : Rd w base R mb nm fn pv ps va (.slice none 0 0) lv l) (hx : ∀ t ∈ l, t.text.size ≤ maxLen) (hl : l.length * 56 ≤ 140737488355328) :
    Calls Tryz.prog 47 #[.pointer (some ⟨R, 0, none⟩)] w (BodyPost base R mb nm fn ps va l w (Mx.bodyErr fn ps va l)) := by
  obtain ⟨res, hres⟩ : ∃ res, res = Mx.bodyErr fn ps va l := ⟨_, rfl⟩
  rw [← hres]
  have hbR := h.hR
  have c5 := h.c5
  have hRl := h.ltR
  rcases l with _ | ⟨u, r⟩
  · obtain ⟨g, o, cap, rfl, h1, h2, hg, -⟩ := id h.lf
    simp only [List.length_nil] at c5 h1
    go_enter Tryz.func47, Tryz.ntmps47
    go_wp2_with fail
    refine bodyPost_ret (results_none rfl _ _ _) rfl ?_
    exact .inr ⟨hres, rfl, pv, _, _, h, World.ownsRow_nil _ _ _ _, Below.refl _ _⟩
  · obtain ⟨g, o, cap, rfl, hc1, hc2, hg, -⟩ := id h.lf
    have ku := h.tok (i := 0) rfl
    obtain ⟨z, hz⟩ : ∃ z, (u :: r)[r.length]? = some z := ⟨_, List.getElem?_eq_getElem (by simp)⟩
    have kz := h.tok hz
    have hpz := Mx.paste_two u r z hz
    obtain ⟨l, hll⟩ : ∃ l, l = u :: r := ⟨_, rfl⟩
    obtain ⟨m, hm⟩ : ∃ m, m = r.length := ⟨_, rfl⟩
    have hlm : l.length = m + 1 := by rw [hll, hm]; rfl
    have hne : l ≠ [] := by rw [hll]; simp
    rw [← hll] at h hres hx hl hpz hc1 c5 ⊢
    rw [← hm] at kz
    rw [hlm] at c5 hc1 hl
    have HLM := Lib.hid hlm
    have HX := Lib.hid hx
    have HH := Lib.hid h
    have HRES := Lib.hid hres
    have HNE := Lib.hid hne
    have ks1 := msign_any u Mx.HH
    have ks2 := msign_any z Mx.HH
    have hm5 : m * 56 ≤ 140737488355328 := Nat.le_trans (Nat.mul_le_mul_right 56 (Nat.le_succ m)) hl
    have hmb : m ≤ 2513169434917 := by omega
    have HL := Lib.hid hl
    clear hll hm hlm hx h hres hne hz hl hm5
    obtain ⟨a0, a1, a2, a3, a4, a5⟩ := ku
    simp only [Nat.zero_mul, Nat.add_zero] at a0 a1 a2 a3 a4 a5
    have z1 : (0 : Int) ≤ m := by omega
    have z2 : (m : Int) < m + 1 := by omega
    have z4 : IntKind.i64.wrap (m : Int) = m := IntWalk.i64_in _ (by omega)
    have z5 : IntKind.i64.wrap ((m : Int) + 1 - 1) = m := by rw [IntWalk.i64_in _ (by omega)]; omega
    go_enter Tryz.func47, Tryz.ntmps47
    go_wp2_with fail
    have hgl : g < w.heap.size := lt_of_cell a0
    cases hp1 : Mx.isP u Mx.HH with
    | true =>
      rw [hp1] at ks1 hpz
      have HE := Lib.hid (show res = some 63 by rw [HRES.out, Mx.bodyErr, if_neg HNE.out, hpz]; rfl)
      clear hpz
      refine (ks1 _).mono ?_
      rintro e W1 ⟨rfl, hB1⟩
      go_wp2_with fail
      refine (must_no 63 _).mono ?_
      rintro e W2 ⟨rfl, hW⟩
      subst hW
      exact ⟨rfl, .inl ⟨63, HE.out, rfl, hB1.mono HH.out.big⟩⟩
    | false =>
      rw [hp1] at ks1 hpz
      refine (ks1 _).mono ?_
      rintro e W1 ⟨rfl, hB1⟩
      obtain ⟨b0, b1, b2, b3, b4, b5⟩ := kz.kept (hB1.block g hgl)
      have h1 := HH.out.keep hB1
      have hB := hB1.mono HH.out.big
      have c5' := h1.c5
      rw [HLM.out] at c5'
      clear a0 a1 a2 a3 a4 a5 c5 hB1 hp1
      go_wp2_with fail
      cases hp2 : Mx.isP z Mx.HH with
      | true =>
        rw [hp2] at ks2 hpz
        have HE := Lib.hid (show res = some 63 by rw [HRES.out, Mx.bodyErr, if_neg HNE.out, hpz]; rfl)
        clear hpz
        refine (ks2 _).mono ?_
        rintro e W2 ⟨rfl, hB2⟩
        go_wp2_with fail
        refine (must_no 63 _).mono ?_
        rintro e W3 ⟨rfl, hW⟩
        subst hW
        exact ⟨rfl, .inl ⟨63, HE.out, rfl, hB.trans (hB2.mono h1.big)⟩⟩
      | false =>
        rw [hp2] at ks2 hpz
        have HE := Lib.hid (show res = if fn && Mx.hashBad ps va l then some 64 else if !va && Mx.vaIn l then some 65 else none by rw [HRES.out, Mx.bodyErr, if_neg HNE.out, hpz]; rfl)
        clear hpz
        refine (ks2 _).mono ?_
        rintro e W2 ⟨rfl, hB2⟩
        have h2 := h1.keep hB2
        replace hB := hB.trans (hB2.mono h1.big)
        clear hB2 c5' b0 b1 b2 b3 b4 b5 kz hp2
        go_wp2_with fail
        refine (must_ok 63 _).mono ?_
        rintro e W3 ⟨rfl, hW⟩
        subst hW
        have c5' := h2.c5
        rw [HLM.out] at c5'
        have H2 := Lib.hid h2
        clear h1 h2 HH
        go_wp2_with fail
        go_loopw [44] (fun i wr => ∃ k : Nat, i = .int .i64 k ∧ k ≤ m + 1 ∧ Below base w wr ∧ Rd wr base R mb nm fn pv ps va (.slice none 0 0) (.slice (some ⟨g, o, none⟩) l.length cap) l ∧ (fn && Mx.hashBad ps va l) = (fn && Mx.hashBad ps va (l.drop k))) (fun i _ => m + 1 - (intOf i).toNat)
        case atStart => exact ⟨0, rfl, Nat.zero_le _, hB, H2.out, rfl⟩
        case round =>
          obtain ⟨k, rfl, hk, hBr, hr, hrel⟩ := hrel
          have hRl := hr.ltR
          by_cases hlt : k < m + 1
          · obtain ⟨t, ht⟩ : ∃ t, l[k]? = some t := ⟨_, List.getElem?_eq_getElem (by rw [HLM.out]; exact hlt)⟩
            obtain ⟨a0, a1, a2, a3, a4, a5⟩ := hr.tok ht
            have hdr := drop_cons_of ht
            rw [hdr, Mx.hashBad_cons] at hrel
            have hgl' : g < wr.heap.size := lt_of_cell a0
            have y1 : (0 : Int) ≤ k := by omega
            have y2 : (k : Int) < m + 1 := by omega
            have hBx : Below wr.heap.size wr (wr.alloc (.cells #[.int .i64 t.kind, .string t.text, .int .i64 t.file, .int .i64 t.fr, .int .i64 t.en, .bool t.bl] 30)) := (Below.refl _ wr).alloc (Nat.le_refl _) _
            have h3 := hr.keep hBx
            have c1 := hr.c1
            have hBw := hBr.trans (hBx.mono hr.big)
            have HREL := Lib.hid hrel
            clear hrel hdr ht
            cases fn with
            | false =>
              have H3 := Lib.hid h3
              clear h3 hr
              go_wp2_with fail
              go_roundw
              case rel => exact ⟨k + 1, by go_num, by omega, hBw, H3.out, rfl⟩
              case measure => simp [intOf]; omega
            | true =>
              have ms := msign_any t Mx.HS
              cases hs : Mx.isP t Mx.HS with
              | false =>
                rw [hs] at ms
                have HR2 := Lib.hid (show (true && Mx.hashBad ps va l) = (true && Mx.hashBad ps va (l.drop (k + 1))) by rw [HREL.out]; simp [Mx.hashHere, hs])
                have H3 := Lib.hid h3
                clear h3 hr hs
                go_wp2_with fail
                refine (ms _).mono ?_
                rintro e W1 ⟨rfl, hB1⟩
                have h4 := H3.out.keep hB1
                have hB4 := hBw.trans (hB1.mono H3.out.big)
                clear hB1
                go_wp2_with fail
                go_roundw
                case rel => exact ⟨k + 1, by go_num, by omega, hB4, h4, HR2.out⟩
                case measure => simp [intOf]; omega
              | true =>
                rw [hs] at ms
                have H3 := Lib.hid h3
                clear h3 hr
                go_wp2_with fail
                refine (ms _).mono ?_
                rintro e W1 ⟨rfl, hB1⟩
                have h4 := H3.out.keep hB1
                have hB4 := hBw.trans (hB1.mono H3.out.big)
                clear hB1 a0 a1 a2 a3 a4 a5
                by_cases hkm : k < m
                · obtain ⟨x, hx⟩ : ∃ x, l[k + 1]? = some x := ⟨_, List.getElem?_eq_getElem (by rw [HLM.out]; omega)⟩
                  have hHere : Mx.hashHere ps va t (l.drop (k + 1)) = !Mx.known ps va x := by rw [drop_cons_of hx]; simp [Mx.hashHere, hs]
                  obtain ⟨a0, a1, a2, a3, a4, a5⟩ := h4.tok hx
                  have c5k := h4.c5
                  rw [HLM.out] at c5k
                  have y3 : (k : Int) < m := by omega
                  have y4 : IntKind.i64.wrap ((k : Int) + 1) = (k : Int) + 1 := IntWalk.i64_in _ (by omega)
                  have y5 : (0 : Int) ≤ (k : Int) + 1 := by omega
                  have y6 : (k : Int) + 1 < m + 1 := by omega
                  have hxs := HX.out x (List.mem_of_getElem? hx)
                  clear hs hx
                  go_wp2_with fail
                  cases hkn : Mx.known ps va x with
                  | true =>
                    have kn := known_any base R mb nm true pv ps va _ _ l x W1 h4 hxs
                    rw [hkn] at kn
                    have HR2 := Lib.hid (show (true && Mx.hashBad ps va l) = (true && Mx.hashBad ps va (l.drop (k + 1))) by rw [HREL.out, hHere, hkn]; rfl)
                    clear hHere hkn
                    refine kn.mono ?_
                    rintro e W2 ⟨rfl, hB2⟩
                    have h5 := h4.keep hB2
                    have hB5 := hB4.trans (hB2.mono h4.big)
                    clear h4 hB2 hB4
                    go_wp2_with fail
                    refine (must_ok 64 _).mono ?_
                    rintro e W3 ⟨rfl, hW⟩
                    subst hW
                    go_wp2_with fail
                    go_roundw
                    case rel => exact ⟨k + 1, by go_num, by omega, hB5, h5, HR2.out⟩
                    case measure => simp [intOf]; omega
                  | false =>
                    have kn := known_any base R mb nm true pv ps va _ _ l x W1 h4 hxs
                    rw [hkn] at kn
                    have hbad : (true && Mx.hashBad ps va l) = true := by rw [HREL.out, hHere, hkn]; rfl
                    have HR2 := Lib.hid (show res = some 64 by rw [HE.out, hbad]; rfl)
                    clear hHere hkn hbad
                    refine kn.mono ?_
                    rintro e W2 ⟨rfl, hB2⟩
                    have hB5 := hB4.trans (hB2.mono h4.big)
                    clear h4 hB2 hB4
                    go_wp2_with fail
                    refine (must_no 64 _).mono ?_
                    rintro e W3 ⟨rfl, hW⟩
                    subst hW
                    exact ⟨rfl, .inl ⟨64, HR2.out, rfl, hB5⟩⟩
                · have hHere : Mx.hashHere ps va t (l.drop (k + 1)) = true := by rw [List.drop_eq_nil_of_le (by rw [HLM.out]; omega)]; simp [Mx.hashHere, hs]
                  have hbad : (true && Mx.hashBad ps va l) = true := by rw [HREL.out, hHere]; rfl
                  have HR2 := Lib.hid (show res = some 64 by rw [HE.out, hbad]; rfl)
                  have y3 : ¬ (k : Int) < m := by omega
                  clear hHere hbad hs
                  go_wp2_with fail
                  refine (must_no 64 _).mono ?_
                  rintro e W3 ⟨rfl, hW⟩
                  subst hW
                  exact ⟨rfl, .inl ⟨64, HR2.out, rfl, hB4⟩⟩
          · have hbad : (fn && Mx.hashBad ps va l) = false := by rw [hrel, List.drop_eq_nil_of_le (by rw [HLM.out]; omega)]; cases fn <;> rfl
            have HE2 := Lib.hid (show res = if !va && Mx.vaIn l then some 65 else none by rw [HE.out, hbad]; rfl)
            have c5k := hr.c5
            rw [HLM.out] at c5k
            have y3 : ¬ (k : Int) < m + 1 := by omega
            have HR := Lib.hid hr
            clear hbad hrel hr
            go_wp2_with fail
            obtain ⟨V, hV⟩ : ∃ V, V = wr := ⟨_, rfl⟩
            rw [← hV] at hBr HR ⊢
            clear hV c5k hRl
            go_loopw [80] (fun i wr => ∃ k : Nat, i = .int .i64 k ∧ k ≤ m + 1 ∧ Below base w wr ∧ Rd wr base R mb nm fn pv ps va (.slice none 0 0) (.slice (some ⟨g, o, none⟩) l.length cap) l ∧ (!va && Mx.vaIn l) = (!va && Mx.vaIn (l.drop k))) (fun i _ => m + 1 - (intOf i).toNat)
            case atStart => exact ⟨0, rfl, Nat.zero_le _, hBr, HR.out, rfl⟩
            case round =>
              obtain ⟨k2, rfl, hk2, hBr2, hr2, hrel2⟩ := hrel
              have hRl := hr2.ltR
              by_cases hlt : k2 < m + 1
              · obtain ⟨t, ht⟩ : ∃ t, l[k2]? = some t := ⟨_, List.getElem?_eq_getElem (by rw [HLM.out]; exact hlt)⟩
                obtain ⟨a0, a1, a2, a3, a4, a5⟩ := hr2.tok ht
                have hdr := drop_cons_of ht
                rw [hdr, Mx.vaIn_cons] at hrel2
                have hgl' : g < wr.heap.size := lt_of_cell a0
                have y1 : (0 : Int) ≤ k2 := by omega
                have y2 : (k2 : Int) < m + 1 := by omega
                have hBx : Below wr.heap.size wr (wr.alloc (.cells #[.int .i64 t.kind, .string t.text, .int .i64 t.file, .int .i64 t.fr, .int .i64 t.en, .bool t.bl] 30)) := (Below.refl _ wr).alloc (Nat.le_refl _) _
                have h3 := hr2.keep hBx
                have c3 := hr2.c3
                have hBw := hBr2.trans (hBx.mono hr2.big)
                have HREL := Lib.hid hrel2
                have H3 := Lib.hid h3
                clear hrel2 hdr ht h3 hr2
                cases va with
                | true =>
                  go_wp2_with fail
                  refine (must_ok 65 _).mono ?_
                  rintro e W3 ⟨rfl, hW⟩
                  subst hW
                  go_wp2_with fail
                  go_roundw
                  case rel => exact ⟨k2 + 1, by go_num, by omega, hBw, H3.out, rfl⟩
                  case measure => simp [intOf]; omega
                | false =>
                  obtain ⟨kd, tx, tf, tfr, ten, tbl⟩ := t
                  dsimp only at a0 a1 a2 a3 a4 a5 hBx hBw H3 HREL
                  by_cases hkd : kd = 1
                  · subst hkd
                    by_cases hv : tx = Mx.VA
                    · have t2 : (tx.toList == [95, 95, 86, 65, 95, 65, 82, 71, 83, 95, 95]) = true := lit_yes hv
                      have hbad : (!false && Mx.vaIn l) = true := by rw [HREL.out]; simp [hv]
                      have HR2 := Lib.hid (show res = some 65 by rw [HE2.out, hbad]; rfl)
                      clear hv hbad
                      go_wp2_with fail
                      refine (must_no 65 _).mono ?_
                      rintro e W3 ⟨rfl, hW⟩
                      subst hW
                      exact ⟨rfl, .inl ⟨65, HR2.out, rfl, hBw⟩⟩
                    · have t2 : (tx.toList == [95, 95, 86, 65, 95, 65, 82, 71, 83, 95, 95]) = false := lit_no hv
                      have HR2 := Lib.hid (show (!false && Mx.vaIn l) = (!false && Mx.vaIn (l.drop (k2 + 1))) by rw [HREL.out]; simp [hv])
                      clear hv
                      go_wp2_with fail
                      refine (must_ok 65 _).mono ?_
                      rintro e W3 ⟨rfl, hW⟩
                      subst hW
                      go_wp2_with fail
                      go_roundw
                      case rel => exact ⟨k2 + 1, by go_num, by omega, hBw, H3.out, HR2.out⟩
                      case measure => simp [intOf]; omega
                  · have HR2 := Lib.hid (show (!false && Mx.vaIn l) = (!false && Mx.vaIn (l.drop (k2 + 1))) by rw [HREL.out]; simp [hkd])
                    have t3 : (kd == 1) = false := by simpa using hkd
                    have t4 : (kd != 1) = true := by simpa using hkd
                    clear hkd
                    go_wp2_with fail
                    refine (must_ok 65 _).mono ?_
                    rintro e W3 ⟨rfl, hW⟩
                    subst hW
                    go_wp2_with fail
                    go_roundw
                    case rel => exact ⟨k2 + 1, by go_num, by omega, hBw, H3.out, HR2.out⟩
                    case measure => simp [intOf]; omega
              · have hbad : (!va && Mx.vaIn l) = false := by rw [hrel2, List.drop_eq_nil_of_le (by rw [HLM.out]; omega)]; cases va <;> rfl
                have HE3 := Lib.hid (show res = none by rw [HE2.out, hbad]; rfl)
                have c5k := hr2.c5
                have y4 : ¬ (k2 : Int) < m + 1 := by omega
                have f4 := hr2.froz 4
                have c4 := hr2.c4
                rw [HLM.out] at c5k
                have HR2 := Lib.hid hr2
                clear hbad hrel2 hr2
                go_wp2_with fail
                refine (bare_any _ l _ (by rw [← HLM.out]; exact HR2.out.lf.ks) (by rw [HLM.out]; exact HL.out)).mono ?_
                rintro e W4 ⟨bv, rfl, hrow, hB4⟩
                obtain ⟨ab, nb, cb, rfl⟩ := row_slice hrow
                have h5 := HR2.out.keep hB4
                have f4' := h5.froz 4
                have c4' := h5.c4
                have hRl4 := h5.ltR
                have hne : (Value.slice ab nb cb).ownBlock ≠ some R := fun e => by have := (hrow.lt R e).1; omega
                have hrow2 := ownsRow_setCell_other hrow (a := ⟨R, 4, none⟩) hne (.slice ab nb cb)
                have h6 := h5.setBody (.slice ab nb cb)
                have hB6 := (hBr2.trans (hB4.mono HR2.out.big)).setCell (p := ⟨R, 4, none⟩) hbR (.slice ab nb cb)
                have H6 := Lib.hid h6
                have HB6 := Lib.hid hB6
                have HROW := Lib.hid (hrow2.mono HR2.out.big)
                clear h6 hB6 hrow hrow2 h5 hB4 f4 c4 c5k
                go_wp2_with fail
                go_end0
                exact .inr ⟨HE3.out, rfl, pv, _, _, H6.out, HROW.out, HB6.out⟩
end Go.Proofs.YtlepnafgcmeimaaGreatDoor

/- What is proved: what read tells, or throws. -/
namespace Go.Proofs.YtlepnafgcmeimaaGreatDoor
open Go.RowKit Go.Shelf Go.WideMaps

/-- A macro in memory of its own. -/
def Mac (W : World) (base : Nat) (v : Value) (m : Mx.M) : Prop :=
  ∃ pv bv, v = .agg #[.string m.name, .bool m.fn, pv, .bool m.va, bv] ∧ W.ownsRow base 9 1 pv m.ps.length (strCells m.ps) ∧ W.ownsRow base 30 6 bv m.body.length (ksCells m.body)

theorem plist_suffix (n : Nat) : ∀ (l : List K) (ps : List ByteArray) (res : List ByteArray × Bool × List K), l.length ≤ n → Mx.plist ps l = some res → res.2.2 <:+ l := by
  induction n with
  | zero =>
    intro l ps res hl h
    rw [List.length_eq_zero_iff.1 (Nat.le_zero.1 hl)] at h
    cases h
  | succ n ih =>
    intro l ps res hl h
    rcases l with _ | ⟨a, _ | ⟨b, r⟩⟩
    · cases h
    · cases h
    · rw [plist_two] at h
      split at h
      · split at h
        · obtain rfl := Option.some.inj h
          exact ⟨[a, b], rfl⟩
        · split at h
          · obtain ⟨pre, hp⟩ := ih r _ res (by simp only [List.length_cons] at hl; omega) h
            exact ⟨a :: b :: pre, by rw [← hp]; rfl⟩
          · cases h
      · cases h
theorem brack_suffix {r : List K} {fn va : Bool} {ps : List ByteArray} {l : List K} (h : Mx.brack r = .ok (fn, ps, va, l)) : l <:+ r := by
  unfold Mx.brack at h
  split at h
  · simp only [Except.ok.injEq, Prod.mk.injEq] at h
    rw [← h.2.2.2]
    exact List.suffix_refl _
  · rename_i u r
    split at h
    · simp only [Except.ok.injEq, Prod.mk.injEq] at h
      rw [← h.2.2.2]
      exact List.suffix_refl _
    · split at h
      · split at h
        · cases h
        · rename_i c r
          split at h
          · simp only [Except.ok.injEq, Prod.mk.injEq] at h
            rw [← h.2.2.2]
            exact ⟨[u, c], rfl⟩
          · split at h
            · cases h
            · rename_i ps' va' l' he
              simp only [Except.ok.injEq, Prod.mk.injEq] at h
              have := plist_suffix _ _ _ _ (Nat.le_refl _) he
              rw [← h.2.2.2]
              obtain ⟨pre, hp⟩ := this
              exact ⟨u :: pre, by rw [← hp]; rfl⟩
      · cases h

theorem brack_err {r : List K} {err : Int} (h : Mx.brack r = .error err) : err ≠ 0 := by
  unfold Mx.brack at h
  split at h
  · cases h
  · split at h
    · cases h
    · split at h
      · split at h
        · injection h with h; omega
        · split at h
          · cases h
          · split at h
            · injection h with h; omega
            · cases h
      · injection h with h; omega
theorem bodyErr_err {fn va : Bool} {ps : List ByteArray} {l : List K} {err : Int} (h : Mx.bodyErr fn ps va l = some err) : err ≠ 0 := by
  unfold Mx.bodyErr at h
  split at h
  · cases h
  · split at h
    · injection h with h; omega
    · split at h
      · injection h with h; omega
      · split at h
        · injection h with h; omega
        · cases h

theorem defi_err {t : K} {r : List K} {err : Int} (h : Mx.nameOk t = true) (hb : Mx.brack r = .error err) : Mx.defi (t :: r) = (.zero, err) := by
  simp [Mx.defi, h, hb]
theorem defi_ok {t : K} {r b : List K} {fn va : Bool} {ps : List ByteArray} (h : Mx.nameOk t = true) (hb : Mx.brack r = .ok (fn, ps, va, b)) : Mx.defi (t :: r) = Mx.bodyOf t.text fn ps va b := by
  simp [Mx.defi, h, hb]

def ReadPost (w : World) (res : Mx.M × Int) (e : Ending) (w' : World) : Prop :=
  Below w.heap.size w w' ∧ ((res.2 ≠ 0 ∧ e = thrown res.2) ∨ (res.2 = 0 ∧ ∃ v, e = .returned v ∧ Mac w' w.heap.size v res.1))

theorem mapOf_made (w : World) : MapOf (w.alloc (.map #[] 0)) w.heap.size [] false :=
  ⟨0, _, World.ownsMap_made w _ _ _, by simp, fun x _ => rfl⟩

set_option maxRecDepth 100000 in
set_option maxHeartbeats 4000000 in
theorem read_any (v : Value) (l : List K) (w : World) (hv : Ks w v l) (hx : ∀ t ∈ l, t.text.size ≤ maxLen) (hl : l.length * 56 ≤ 140737488355328) :
    Calls Tryz.prog 27 #[v] w (ReadPost w (Mx.defi l)) := by
  obtain ⟨ad, cap, rfl, hc1, hc2, hc3⟩ := id hv
  have hmm := @run_makeMap Tryz.prog
  obtain ⟨res, hres⟩ : ∃ res, res = Mx.defi l := ⟨_, rfl⟩
  rw [← hres]
  have HRES := Lib.hid hres
  have HV := Lib.hid hv
  have HX := Lib.hid hx
  have HL := Lib.hid hl
  have HC3 := Lib.hid hc3
  obtain ⟨n, hn⟩ : ∃ n, n = l.length := ⟨_, rfl⟩
  rw [← hn] at hc1 ⊢
  have HN := Lib.hid hn
  clear hres hv hx hl hc3 hn
  go_enter Tryz.func27, Tryz.ntmps27
  go_wp2_with fail
  have hkR := heap_alloc_new ((w.alloc (.cells #[.string ⟨#[]⟩, .bool false, .slice none 0 0, .bool false, .slice none 0 0] 32)).alloc (.map #[] 0)) (.cells #[.string ⟨#[]⟩, .bool false, .slice none 0 0, .bool false, .slice none 0 0, .slice ad n cap, .map (some (w.heap.size + 1))] 101)
  simp only [World.size_alloc] at hkR
  rcases l with _ | ⟨t, r⟩
  · obtain rfl : n = 0 := HN.out
    refine (name_nil w.heap.size (w.heap.size + 1 + 1) ad cap _ ?c5).mono ?_
    case c5 => exact (Lib.cell_of_heap hkR 5).trans rfl
    rintro e W1 ⟨rfl, hB1⟩
    exact ⟨rfl, Below.trans ((((Below.refl _ w).alloc (Nat.le_refl _) _).alloc (by simp) _).alloc (by simp; omega) _) hB1, .inl ⟨by rw [HRES.out]; decide, by rw [HRES.out]; rfl⟩⟩
  · have hB0 : Below w.heap.size w (((w.alloc (.cells #[.string ⟨#[]⟩, .bool false, .slice none 0 0, .bool false, .slice none 0 0] 32)).alloc (.map #[] 0)).alloc (.cells #[.string ⟨#[]⟩, .bool false, .slice none 0 0, .bool false, .slice none 0 0, .slice ad n cap, .map (some (w.heap.size + 1))] 101)) := (((Below.refl _ w).alloc (Nat.le_refl _) _).alloc (by simp) _).alloc (by simp; omega) _
    have hk0 := heap_alloc_new w (.cells #[.string ⟨#[]⟩, .bool false, .slice none 0 0, .bool false, .slice none 0 0] 32)
    replace hk0 := (Below.heap_alloc _ (.map #[] 0) _ (lt_of_block hk0)).trans hk0
    replace hk0 := (Below.heap_alloc _ (.cells #[.string ⟨#[]⟩, .bool false, .slice none 0 0, .bool false, .slice none 0 0, .slice ad n cap, .map (some (w.heap.size + 1))] 101) _ (lt_of_block hk0)).trans hk0
    have hmp := mapOf_made (w.alloc (.cells #[.string ⟨#[]⟩, .bool false, .slice none 0 0, .bool false, .slice none 0 0] 32))
    replace hmp := hmp.keep (World.grownBy_alloc _ (.cells #[.string ⟨#[]⟩, .bool false, .slice none 0 0, .bool false, .slice none 0 0, .slice ad n cap, .map (some (w.heap.size + 1))] 101) none)
    simp only [World.size_alloc] at hmp
    obtain ⟨g0, o0, rfl, -, -, -, hg0, hcs⟩ := HV.out.cells (by simp)
    have hRd : Rd _ (w.heap.size + 1) (w.heap.size + 1 + 1) (w.heap.size + 1) ⟨#[]⟩ false (.slice none 0 0) [] false (.slice none 0 0) (.slice (some ⟨g0, o0, none⟩) n cap) (t :: r) :=
      ⟨hkR, by omega, by omega, World.ownsRow_nil _ _ _ _, by simp [Value.ownBlock], by simp [Value.ownBlock], by omega, hmp, ⟨g0, o0, cap, by rw [HN.out], by rw [← HN.out]; exact hc1, hc2, by omega, fun i x hx => (hcs i x hx).below hB0 hg0⟩⟩
    have hB0' := hB0.mono (Nat.le_refl _)
    generalize ((w.alloc (.cells #[.string ⟨#[]⟩, .bool false, .slice none 0 0, .bool false, .slice none 0 0] 32)).alloc (.map #[] 0)).alloc (.cells #[.string ⟨#[]⟩, .bool false, .slice none 0 0, .bool false, .slice none 0 0, .slice (some ⟨g0, o0, none⟩) n cap, .map (some (w.heap.size + 1))] 101) = W0 at hB0 hk0 hRd ⊢
    have hsz : w.heap.size + 1 ≤ W0.heap.size := hRd.big
    have hblk : ∀ W1, Below (w.heap.size + 1) W0 W1 → Below w.heap.size w W1 := fun W1 h => hB0.trans (h.mono (Nat.le_succ _))
    have HBLK := Lib.hid hblk
    have HK0 := Lib.hid hk0
    have hxr : ∀ x ∈ r, x.text.size ≤ maxLen := fun x h => HX.out x (by simp [h])
    have hlr : r.length * 56 ≤ 140737488355328 := by have := HL.out; simp only [List.length_cons] at this; omega
    have HXR := Lib.hid hxr
    have HLR := Lib.hid hlr
    clear hkR hmp hcs hB0 hB0' hmm hsz hblk hk0 hxr hlr
    cases hno : Mx.nameOk t with
    | false =>
      have HE := Lib.hid (show res = (.zero, 60) by rw [HRES.out]; simp [Mx.defi, hno])
      refine (name_bad _ _ _ _ _ _ _ _ _ _ t r _ hRd hno).mono ?_
      rintro e W1 ⟨rfl, hB1⟩
      exact ⟨rfl, HBLK.out _ hB1, .inl ⟨by rw [HE.out]; decide, by rw [HE.out]; rfl⟩⟩
    | true =>
      refine (name_ok _ _ _ _ _ _ _ _ _ _ t r _ hRd hno).mono ?_
      rintro e W1 ⟨rfl, lv1, h1, hB1⟩
      have H1 := Lib.hid h1
      have HNO := Lib.hid hno
      clear hno hRd h1
      go_wp2_with fail
      refine (brackets_any _ _ _ _ _ _ _ r _ H1.out HXR.out HLR.out).mono ?_
      rintro e W2 (⟨err, he, rfl, hB2⟩ | ⟨fn, ps, va, b, he, rfl, pv2, lv2, h2, hB2⟩)
      · have HE := Lib.hid (show res = (.zero, err) by rw [HRES.out, defi_err HNO.out he])
        refine ⟨rfl, HBLK.out _ (hB1.trans hB2), .inl ⟨?_, by rw [HE.out]; rfl⟩⟩
        rw [HE.out]
        exact brack_err he
      · have HE := Lib.hid (show res = Mx.bodyOf t.text fn ps va b by rw [HRES.out, defi_ok HNO.out he])
        have hsuf := brack_suffix he
        have hxb : ∀ x ∈ b, x.text.size ≤ maxLen := fun x h => HXR.out x (hsuf.mem h)
        have hlb : b.length * 56 ≤ 140737488355328 := Nat.le_trans (Nat.mul_le_mul_right 56 hsuf.length_le) HLR.out
        have H2 := Lib.hid h2
        have HXB := Lib.hid hxb
        have HLB := Lib.hid hlb
        have HB := Lib.hid (hB1.trans hB2)
        clear he hsuf hxb hlb h2 hB1 hB2
        go_wp2_with fail
        refine (body_any _ _ _ _ fn pv2 ps va lv2 b _ H2.out HXB.out HLB.out).mono ?_
        rintro e W3 (⟨err, he, rfl, hB3⟩ | ⟨he, rfl, pv3, bv3, lv3, h3, hrow, hB3⟩)
        · have HE2 := Lib.hid (show res = (.zero, err) by rw [HE.out, Mx.bodyOf_err, he])
          refine ⟨rfl, HBLK.out _ (HB.out.trans hB3), .inl ⟨?_, by rw [HE2.out]; rfl⟩⟩
          rw [HE2.out]
          exact bodyErr_err he
        · have HE2 := Lib.hid (show res = (⟨t.text, fn, ps, va, Mx.bare b⟩, 0) by rw [HE.out, Mx.bodyOf_err, he])
          have hBf := HBLK.out _ (HB.out.trans hB3)
          have hkr := ((HB.out.trans hB3).block w.heap.size (by omega)).trans HK0.out
          have d0 := h3.c0
          have d1 := h3.c1
          have d2 := h3.c2
          have d3 := h3.c3
          have d4 := h3.c4
          have hRl := h3.ltR
          have r0 := (Lib.cell_of_heap hkr 0).trans rfl
          have r1 := (Lib.cell_of_heap hkr 1).trans rfl
          have r2 := (Lib.cell_of_heap hkr 2).trans rfl
          have r3 := (Lib.cell_of_heap hkr 3).trans rfl
          have r4 := (Lib.cell_of_heap hkr 4).trans rfl
          have hwl := lt_of_block hkr
          have q0 : ∀ i, W3.frozen? ⟨w.heap.size, i, none⟩ = false := fun i => by simp [World.frozen?, hkr]
          obtain ⟨pa, pn, pc, rfl⟩ := row_slice h3.prow
          obtain ⟨ba, bn, bc, rfl⟩ := row_slice hrow
          have hpn : ∀ i u, ((W3.setCell ⟨w.heap.size, i, none⟩ u)).heap.size = W3.heap.size := fun i u => by simp
          go_wp2_with fail
          have hfin : (((((W3.setCell ⟨w.heap.size, 0, none⟩ (.string t.text)).setCell ⟨w.heap.size, 1, none⟩ (.bool fn)).setCell ⟨w.heap.size, 2, none⟩ (.slice pa pn pc)).setCell ⟨w.heap.size, 3, none⟩ (.bool va)).setCell ⟨w.heap.size, 4, none⟩ (.slice ba bn bc)).heap[w.heap.size]? = some (.cells #[.string t.text, .bool fn, .slice pa pn pc, .bool va, .slice ba bn bc] 32 (0, 0)) := by
            simp [World.setCell, Array.getElem?_modify, hkr]
          have s0 := (Lib.cell_of_heap hfin 0).trans rfl
          have s1 := (Lib.cell_of_heap hfin 1).trans rfl
          have s2 := (Lib.cell_of_heap hfin 2).trans rfl
          have s3 := (Lib.cell_of_heap hfin 3).trans rfl
          have s4 := (Lib.cell_of_heap hfin 4).trans rfl
          generalize hW5 : ((((W3.setCell ⟨w.heap.size, 0, none⟩ (.string t.text)).setCell ⟨w.heap.size, 1, none⟩ (.bool fn)).setCell ⟨w.heap.size, 2, none⟩ (.slice pa pn pc)).setCell ⟨w.heap.size, 3, none⟩ (.bool va)).setCell ⟨w.heap.size, 4, none⟩ (.slice ba bn bc) = W5 at hfin s0 s1 s2 s3 s4 ⊢
          refine bodyPost_ret (v := .agg #[.string t.text, .bool fn, .slice pa pn pc, .bool va, .slice ba bn bc]) (by simp [results, Tryz.results27, go_sem, s0, s1, s2, s3, s4]) rfl ?_
          subst hW5
          have hset : ∀ W : World, W.ownsRow (w.heap.size + 1) 9 1 (.slice pa pn pc) ps.length (strCells ps) → W.ownsRow (w.heap.size + 1) 30 6 (.slice ba bn bc) b.length (ksCells (Mx.bare b)) → Below w.heap.size w W → ∀ i u, (W.setCell ⟨w.heap.size, i, none⟩ u).ownsRow (w.heap.size + 1) 9 1 (.slice pa pn pc) ps.length (strCells ps) ∧ (W.setCell ⟨w.heap.size, i, none⟩ u).ownsRow (w.heap.size + 1) 30 6 (.slice ba bn bc) b.length (ksCells (Mx.bare b)) ∧ Below w.heap.size w (W.setCell ⟨w.heap.size, i, none⟩ u) :=
            fun W h1 h2 h3 i u => ⟨ownsRow_setCell_below h1 (by simp) u, ownsRow_setCell_below h2 (by simp) u, h3.setCell (Nat.le_refl _) u⟩
          obtain ⟨x1, x2, x3⟩ := hset _ h3.prow hrow hBf 0 (.string t.text)
          obtain ⟨x1, x2, x3⟩ := hset _ x1 x2 x3 1 (.bool fn)
          obtain ⟨x1, x2, x3⟩ := hset _ x1 x2 x3 2 (.slice pa pn pc)
          obtain ⟨x1, x2, x3⟩ := hset _ x1 x2 x3 3 (.bool va)
          obtain ⟨x1, x2, x3⟩ := hset _ x1 x2 x3 4 (.slice ba bn bc)
          refine ⟨x3, .inr ⟨by rw [HE2.out], _, rfl, ?_⟩⟩
          rw [HE2.out]
          exact ⟨_, _, rfl, x1.mono (Nat.le_succ _), by rw [bare_len]; exact x2.mono (Nat.le_succ _)⟩
end Go.Proofs.YtlepnafgcmeimaaGreatDoor

/- What is proved: what Define tells of any tokens. -/
namespace Go.Proofs.YtlepnafgcmeimaaGreatDoor
open Go.RowKit Go.Shelf Go.WideMaps

theorem catch_idle (p : Addr) (w : World) :
    CallsD Tryz.prog 26 #[.pointer (some p)] .returning w fun e u' w' => e = .returned (.tuple #[]) ∧ u' = .returning ∧ w' = w := by
  refine callsD_of_wpS Tryz.func26 rfl fun c₀ cs hu => ?_
  apply wpS_seq
  apply wpS_region
  simp [wpOpsS, go_sem, recoverD, hu, Tryz.ntmps26, Exit.thenS]
  refine wpS_of_wp ?_
  have q : ∀ w : World, (binOp .eql 20 .nilIface .nilIface).run Tryz.prog w = .ok (.bool true) w := fun _ => by kernel_rfl
  go_wp2_with fail
  cases c₀
  simp_all [bodyPostS, results, Tryz.results26]

set_option maxRecDepth 100000 in
set_option maxHeartbeats 1000000 in
theorem catch_thrown (b : Nat) (err x : Int) (older : List PanicEntry) (w : World) (hc : w.cell? ⟨b, 0, none⟩ = some (.int .i64 x)) (hz : w.frozen? ⟨b, 0, none⟩ = false) :
    CallsD Tryz.prog 26 #[.pointer (some ⟨b, 0, none⟩)] (.panicking ({ v := wrongV err, recovered := false } :: older)) w fun e u' w' =>
      e = .returned (.tuple #[]) ∧ u' = .panicking ({ v := wrongV err, recovered := true } :: older) ∧ w' = (w.alloc (.cells #[.int .i64 err] 64)).setCell ⟨b, 0, none⟩ (.int .i64 err) := by
  refine callsD_of_wpS Tryz.func26 rfl fun c₀ cs hu => ?_
  have q : ∀ (v : Value) (w : World), (binOp .eql 20 (.iface 64 v) .nilIface).run Tryz.prog w = .ok (.bool false) w := fun _ _ => by kernel_rfl
  have q2 : ∀ (a : Int) (w : World), (Instr.typeAssert (.iface 64 (.agg #[.int .i64 a])) 20 64 true).run Tryz.prog w = .ok (.tuple #[.agg #[.int .i64 a], .bool true]) w := fun _ _ => by kernel_rfl
  have hlt := lt_of_cell hc
  have hz' : (w.alloc (.cells #[.int .i64 err] 64)).frozen? ⟨b, 0, none⟩ = false := (World.frozen?_of_block (w := w) (a := ⟨b, 0, none⟩) (Below.heap_alloc w _ b hlt)).trans hz
  apply wpS_seq
  apply wpS_region
  simp [wpOpsS, go_sem, recoverD, hu, Tryz.ntmps26, Exit.thenS]
  refine wpS_of_wp ?_
  unfold wrongV
  go_wp2_with fail
  cases c₀
  simp_all [bodyPostS, results, Tryz.results26, wrongV]

def DefPost (w : World) (res : Mx.M × Int) (e : Ending) (w' : World) : Prop := ∃ v, e = .returned (.tuple #[v, .int .i64 res.2]) ∧ Mac w' w.heap.size v res.1 ∧ Below w.heap.size w w'

theorem bodyOf_zero (nm : ByteArray) (fn : Bool) (ps : List ByteArray) (va : Bool) (l : List K) (h : (Mx.bodyOf nm fn ps va l).2 ≠ 0) : (Mx.bodyOf nm fn ps va l).1 = .zero := by
  unfold Mx.bodyOf at *
  split
  · simp_all
  · split
    · rfl
    · split
      · rfl
      · split
        · rfl
        · simp_all
theorem defi_zero (l : List K) (h : (Mx.defi l).2 ≠ 0) : (Mx.defi l).1 = .zero := by
  rcases l with _ | ⟨t, r⟩
  · rfl
  · simp only [Mx.defi] at h ⊢
    by_cases hn : Mx.nameOk t = true
    · rw [if_pos hn] at h ⊢
      cases hb : Mx.brack r with
      | error e => rfl
      | ok x =>
        obtain ⟨fn, ps, va, b⟩ := x
        rw [hb] at h
        exact bodyOf_zero _ _ _ _ _ h
    · rw [if_neg hn]

set_option maxRecDepth 100000 in
set_option maxHeartbeats 2000000 in
theorem define_any (v : Value) (l : List K) (w : World) (hv : Ks w v l) (hx : ∀ t ∈ l, t.text.size ≤ maxLen) (hl : l.length * 56 ≤ 140737488355328) :
    Calls Tryz.prog 15 #[v] w (DefPost w (Mx.defi l)) := by
  have hmf : ∀ (fn : Fn) (first cap : Array Value) (w : World), (Instr.makeFunc fn first cap).run Tryz.prog w = .ok (.func fn first cap) w := fun _ _ _ _ => rfl
  have hz := defi_zero l
  obtain ⟨res, hres⟩ : ∃ res, res = Mx.defi l := ⟨_, rfl⟩
  rw [← hres] at hz ⊢
  have HRES := Lib.hid hres
  have HV := Lib.hid hv
  have HX := Lib.hid hx
  have HL := Lib.hid hl
  have HZ := Lib.hid hz
  obtain ⟨ad, cap, rfl, hc1, hc2, hc3⟩ := id hv
  clear hres hv hx hl hc3 hz
  go_enter_defers Tryz.func15, Tryz.ntmps15
  go_wp2_with fail
  have hB0 : Below w.heap.size w ((w.alloc (.cells #[.string ⟨#[]⟩, .bool false, .slice none 0 0, .bool false, .slice none 0 0] 32)).alloc (.cells #[.int .i64 0] 33)) := ((Below.refl _ w).alloc (Nat.le_refl _) _).alloc (by simp) _
  have hk0 := heap_alloc_new w (.cells #[.string ⟨#[]⟩, .bool false, .slice none 0 0, .bool false, .slice none 0 0] 32)
  replace hk0 := (Below.heap_alloc _ (.cells #[.int .i64 0] 33) _ (lt_of_block hk0)).trans hk0
  have hk1 := heap_alloc_new (w.alloc (.cells #[.string ⟨#[]⟩, .bool false, .slice none 0 0, .bool false, .slice none 0 0] 32)) (.cells #[.int .i64 0] 33)
  simp only [World.size_alloc] at hk1
  generalize (w.alloc (.cells #[.string ⟨#[]⟩, .bool false, .slice none 0 0, .bool false, .slice none 0 0] 32)).alloc (.cells #[.int .i64 0] 33) = W0 at hB0 hk0 hk1 ⊢
  refine (read_any _ l _ (HV.out.below hB0) HX.out HL.out).mono ?_
  rw [← HRES.out]
  rintro e W1 ⟨hB1, ⟨hne, rfl⟩ | ⟨h0, mv, rfl, hmac⟩⟩
  · replace hk0 := (hB1.block _ (lt_of_block hk0)).trans hk0
    replace hk1 := (hB1.block _ (lt_of_block hk1)).trans hk1
    have hB := Below.then hB0 hB1
    have e1 := (Lib.cell_of_heap hk1 0).trans rfl
    refine leaves_cons (f := 26) (args := #[.pointer (some ⟨w.heap.size + 1, 0, none⟩)]) (by simp) (by simp [go_sem]) ?_
    refine (catch_thrown (w.heap.size + 1) res.2 0 [] _ e1 (by simp [World.frozen?, hk1])).mono ?_
    rintro e u' w'' ⟨rfl, rfl, rfl⟩
    have hf0 : ((W1.alloc (.cells #[.int .i64 res.2] 64)).setCell ⟨w.heap.size + 1, 0, none⟩ (.int .i64 res.2)).heap[w.heap.size]? = some (.cells #[.string ⟨#[]⟩, .bool false, .slice none 0 0, .bool false, .slice none 0 0] 32 (0, 0)) := by
      rw [Below.heap_setCell _ _ _ _ (by simp)]
      exact (Below.heap_alloc _ _ _ (lt_of_block hk0)).trans hk0
    have hf1 : ((W1.alloc (.cells #[.int .i64 res.2] 64)).setCell ⟨w.heap.size + 1, 0, none⟩ (.int .i64 res.2)).heap[w.heap.size + 1]? = some (.cells #[.int .i64 res.2] 33 (0, 0)) := by
      have := (Below.heap_alloc W1 (.cells #[.int .i64 res.2] 64) _ (lt_of_block hk1)).trans hk1
      simp [World.setCell, Array.getElem?_modify, this]
    have hBf : Below w.heap.size w ((W1.alloc (.cells #[.int .i64 res.2] 64)).setCell ⟨w.heap.size + 1, 0, none⟩ (.int .i64 res.2)) := (hB.alloc hB.size _).setCell (Nat.le_succ _) _
    generalize (W1.alloc (.cells #[.int .i64 res.2] 64)).setCell ⟨w.heap.size + 1, 0, none⟩ (.int .i64 res.2) = Wf at hf0 hf1 hBf ⊢
    have s0 := (Lib.cell_of_heap hf0 0).trans rfl
    have s1 := (Lib.cell_of_heap hf0 1).trans rfl
    have s2 := (Lib.cell_of_heap hf0 2).trans rfl
    have s3 := (Lib.cell_of_heap hf0 3).trans rfl
    have s4 := (Lib.cell_of_heap hf0 4).trans rfl
    have s5 := (Lib.cell_of_heap hf1 0).trans rfl
    refine ⟨.tuple #[.agg #[.string ⟨#[]⟩, .bool false, .slice none 0 0, .bool false, .slice none 0 0], .int .i64 res.2], by simp [results, Tryz.results15, go_sem, s0, s1, s2, s3, s4, s5], _, rfl, ?_, hBf⟩
    rw [HZ.out hne]
    exact ⟨_, _, rfl, World.ownsRow_nil _ _ _ _, World.ownsRow_nil _ _ _ _⟩
  · obtain ⟨pv, bv, rfl, hp, hb⟩ := hmac
    obtain ⟨pa, pn, pc, rfl⟩ := row_slice hp
    obtain ⟨ba, bn, bc, rfl⟩ := row_slice hb
    have hsz : w.heap.size + 1 < W0.heap.size := lt_of_block hk1
    replace hk0 := (hB1.block _ (lt_of_block hk0)).trans hk0
    replace hk1 := (hB1.block _ (lt_of_block hk1)).trans hk1
    have hB := Below.then hB0 hB1
    have hwl := lt_of_block hk1
    have hwl0 := lt_of_block hk0
    have r0 := (Lib.cell_of_heap hk0 0).trans rfl
    have r1 := (Lib.cell_of_heap hk0 1).trans rfl
    have r2 := (Lib.cell_of_heap hk0 2).trans rfl
    have r3 := (Lib.cell_of_heap hk0 3).trans rfl
    have r4 := (Lib.cell_of_heap hk0 4).trans rfl
    have r5 := (Lib.cell_of_heap hk1 0).trans rfl
    have q0 : ∀ i, W1.frozen? ⟨w.heap.size, i, none⟩ = false := fun i => by simp [World.frozen?, hk0]
    have q1 : W1.frozen? ⟨w.heap.size + 1, 0, none⟩ = false := by simp [World.frozen?, hk1]
    have HP := Lib.hid hp
    have HBd := Lib.hid hb
    have HK0 := Lib.hid hk0
    have HK1 := Lib.hid hk1
    have H0 := Lib.hid h0
    clear hp hb hk0 hk1 h0 hB0 hB1
    go_wp2_with fail
    have hset : ∀ W : World, W.ownsRow W0.heap.size 9 1 (.slice pa pn pc) res.1.ps.length (strCells res.1.ps) → W.ownsRow W0.heap.size 30 6 (.slice ba bn bc) res.1.body.length (ksCells res.1.body) → Below w.heap.size w W → ∀ (b i : Nat) (u : Value), w.heap.size ≤ b → b < W0.heap.size → (W.setCell ⟨b, i, none⟩ u).ownsRow W0.heap.size 9 1 (.slice pa pn pc) res.1.ps.length (strCells res.1.ps) ∧ (W.setCell ⟨b, i, none⟩ u).ownsRow W0.heap.size 30 6 (.slice ba bn bc) res.1.body.length (ksCells res.1.body) ∧ Below w.heap.size w (W.setCell ⟨b, i, none⟩ u) :=
      fun W h1 h2 h3 b i u hb hb' => ⟨ownsRow_setCell_below h1 hb' u, ownsRow_setCell_below h2 hb' u, h3.setCell hb u⟩
    obtain ⟨x1, x2, x3⟩ := hset _ HP.out HBd.out hB w.heap.size 0 (.string res.1.name) (Nat.le_refl _) (by omega)
    obtain ⟨x1, x2, x3⟩ := hset _ x1 x2 x3 w.heap.size 1 (.bool res.1.fn) (Nat.le_refl _) (by omega)
    obtain ⟨x1, x2, x3⟩ := hset _ x1 x2 x3 w.heap.size 2 (.slice pa pn pc) (Nat.le_refl _) (by omega)
    obtain ⟨x1, x2, x3⟩ := hset _ x1 x2 x3 w.heap.size 3 (.bool res.1.va) (Nat.le_refl _) (by omega)
    obtain ⟨x1, x2, x3⟩ := hset _ x1 x2 x3 w.heap.size 4 (.slice ba bn bc) (Nat.le_refl _) (by omega)
    obtain ⟨x1, x2, x3⟩ := hset _ x1 x2 x3 (w.heap.size + 1) 0 (.int .i64 0) (Nat.le_succ _) hsz
    have hf0 : ((((((W1.setCell ⟨w.heap.size, 0, none⟩ (.string res.1.name)).setCell ⟨w.heap.size, 1, none⟩ (.bool res.1.fn)).setCell ⟨w.heap.size, 2, none⟩ (.slice pa pn pc)).setCell ⟨w.heap.size, 3, none⟩ (.bool res.1.va)).setCell ⟨w.heap.size, 4, none⟩ (.slice ba bn bc)).setCell ⟨w.heap.size + 1, 0, none⟩ (.int .i64 0)).heap[w.heap.size]? = some (.cells #[.string res.1.name, .bool res.1.fn, .slice pa pn pc, .bool res.1.va, .slice ba bn bc] 32 (0, 0)) := by
      simp [World.setCell, Array.getElem?_modify, HK0.out]
    have hf1 : ((((((W1.setCell ⟨w.heap.size, 0, none⟩ (.string res.1.name)).setCell ⟨w.heap.size, 1, none⟩ (.bool res.1.fn)).setCell ⟨w.heap.size, 2, none⟩ (.slice pa pn pc)).setCell ⟨w.heap.size, 3, none⟩ (.bool res.1.va)).setCell ⟨w.heap.size, 4, none⟩ (.slice ba bn bc)).setCell ⟨w.heap.size + 1, 0, none⟩ (.int .i64 0)).heap[w.heap.size + 1]? = some (.cells #[.int .i64 0] 33 (0, 0)) := by
      simp [World.setCell, Array.getElem?_modify, HK1.out]
    generalize ((((((W1.setCell ⟨w.heap.size, 0, none⟩ (.string res.1.name)).setCell ⟨w.heap.size, 1, none⟩ (.bool res.1.fn)).setCell ⟨w.heap.size, 2, none⟩ (.slice pa pn pc)).setCell ⟨w.heap.size, 3, none⟩ (.bool res.1.va)).setCell ⟨w.heap.size, 4, none⟩ (.slice ba bn bc)).setCell ⟨w.heap.size + 1, 0, none⟩ (.int .i64 0)) = Wf at x1 x2 x3 hf0 hf1 ⊢
    refine leaves_cons (f := 26) (args := #[.pointer (some ⟨w.heap.size + 1, 0, none⟩)]) (by simp) (by simp [go_sem]) ?_
    refine (catch_idle ⟨w.heap.size + 1, 0, none⟩ _).mono ?_
    rintro e u' w'' ⟨rfl, rfl, rfl⟩
    have s0 := (Lib.cell_of_heap hf0 0).trans rfl
    have s1 := (Lib.cell_of_heap hf0 1).trans rfl
    have s2 := (Lib.cell_of_heap hf0 2).trans rfl
    have s3 := (Lib.cell_of_heap hf0 3).trans rfl
    have s4 := (Lib.cell_of_heap hf0 4).trans rfl
    have s5 := (Lib.cell_of_heap hf1 0).trans rfl
    refine ⟨.tuple #[.agg #[.string res.1.name, .bool res.1.fn, .slice pa pn pc, .bool res.1.va, .slice ba bn bc], .int .i64 0], by simp [results, Tryz.results15, go_sem, s0, s1, s2, s3, s4, s5], _, by rw [H0.out], ⟨_, _, rfl, x1.mono (by omega), x2.mono (by omega)⟩, x3⟩
end Go.Proofs.YtlepnafgcmeimaaGreatDoor

/- What is proved: the map of parameters: paramsOf, paramOf. -/
namespace Go.Proofs.YtlepnafgcmeimaaGreatDoor
open Go.RowKit Go.Shelf Go.WideMaps
open Mx (M VA)

theorem strCells_get {ps : List ByteArray} {i : Nat} {s : ByteArray} (h : ps[i]? = some s) : (strCells ps)[i]? = some (.string s) := by simp [strCells, h]
/-- A slice value whose elements are these texts. -/
def Sts (W : World) (v : Value) (ps : List ByteArray) : Prop :=
  ∃ ad cap, v = .slice ad ps.length cap ∧ ps.length ≤ cap ∧ cap ≤ maxLen ∧ ∀ i s, ps[i]? = some s → ∃ g o, ad = some ⟨g, o, none⟩ ∧ W.cell? ⟨g, o + i, none⟩ = some (.string s)
theorem Sts.below {W W' : World} {v : Value} {ps : List ByteArray} (h : Sts W v ps) (hb : Below W.heap.size W W') : Sts W' v ps := by
  obtain ⟨ad, cap, rfl, h1, h2, h3⟩ := h
  refine ⟨ad, cap, rfl, h1, h2, fun i s hs => ?_⟩
  obtain ⟨g, o, e, c⟩ := h3 i s hs
  exact ⟨g, o, e, (hb.cell (p := ⟨g, o + i, none⟩) (lt_of_cell c)).trans c⟩
theorem Sts.of_row {W : World} {base n : Nat} {v : Value} {ps : List ByteArray} (h : W.ownsRow base 9 1 v n (strCells ps)) : Sts W v ps := by
  obtain rfl : n = ps.length := by have := h.1; rw [strCells_length] at this; omega
  have hc := fun g => h.cells (g := g)
  rcases h.2 with ⟨rfl, h0⟩ | ⟨g, cap, cur, rfl, _, _, h1, h2, _, _⟩
  · refine ⟨none, 0, by rw [h0], by omega, Nat.zero_le _, fun i x hx => ?_⟩
    rw [List.length_eq_zero_iff.1 h0] at hx
    simp at hx
  · refine ⟨_, cap, rfl, h1, h2, fun i t ht => ⟨g, 0, rfl, ?_⟩⟩
    have := hc g rfl i _ (strCells_get ht)
    rwa [add_none] at this
/-- A macro's value. -/
def MacV (W : World) (v : Value) (m : M) : Prop := ∃ pv bv, v = .agg #[.string m.name, .bool m.fn, pv, .bool m.va, bv] ∧ Sts W pv m.ps ∧ Ks W bv m.body
theorem Mac.val {W : World} {base : Nat} {v : Value} {m : M} (h : Mac W base v m) : MacV W v m := by
  obtain ⟨pv, bv, rfl, h1, h2⟩ := h
  exact ⟨pv, bv, rfl, Sts.of_row h1, Ks.of_row h2⟩
theorem MacV.below {W W' : World} {v : Value} {m : M} (h : MacV W v m) (hb : Below W.heap.size W W') : MacV W' v m := by
  obtain ⟨pv, bv, rfl, h1, h2⟩ := h
  exact ⟨pv, bv, rfl, h1.below hb, h2.below hb⟩

/-! ### a map of numbers -/
theorem zero3 (w : World) : (zeroValue 3).run Tryz.prog w = .ok (.int .i64 0) w := by kernel_rfl
theorem wf3 (n : Nat) (h : n < 9223372036854775808) : (Lit.int .i64 (n : Int)).wf = true := by
  show (decide ((-9223372036854775808 : Int) ≤ n) && decide ((n : Int) ≤ 9223372036854775807)) = true
  rw [decide_eq_true (by omega), decide_eq_true (by omega)]
  rfl
/-- A map that reads as this. -/
def PMap (W : World) (mb N : Nat) (f : ByteArray → Option Nat) : Prop :=
  ∃ D, W.ownsMap (H := Unit) Tryz.prog 9 (plainElem Tryz.prog 3) mb N D ∧ ∀ x : ByteArray, x.size ≤ maxLen → Go.Maps.has D (.string x.data.toList) = (f x).isSome ∧ D.atKey (.string x.data.toList) (.lit (.int .i64 0)) = .lit (.int .i64 (((f x).getD 0 : Nat) : Int))
theorem PMap.keep {W W' : World} {mb N : Nat} {f : ByteArray → Option Nat} (h : PMap W mb N f) (hg : W.grownBy W' none) : PMap W' mb N f := by
  obtain ⟨D, h1, h2⟩ := h
  exact ⟨D, h1.kept hg (by simp), h2⟩
theorem PMap.below {W W' : World} {mb N : Nat} {f : ByteArray → Option Nat} (h : PMap W mb N f) (hb : Below W.heap.size W W') : PMap W' mb N f := h.keep (grownN hb none)
theorem PMap.lt {W : World} {mb N : Nat} {f : ByteArray → Option Nat} (h : PMap W mb N f) : mb < W.heap.size := by obtain ⟨D, h1, _⟩ := h; exact h1.lt
theorem PMap.look {W : World} {mb N : Nat} {f : ByteArray → Option Nat} (h : PMap W mb N f) (x : ByteArray) (hx : x.size ≤ maxLen) :
    (Instr.lookup 157 (.map (some mb)) (.string x) true).run Tryz.prog W = .ok (.tuple #[.int .i64 (((f x).getD 0 : Nat) : Int), .bool (f x).isSome]) W := by
  obtain ⟨D, h1, h3⟩ := h
  obtain ⟨v, q, hr, hv⟩ := h1.look_ok keyStr Tryz.underlying157 (zero3 W) (plainElem_int (H := Unit) (q := .i64) Tryz.underlying3 (a := 0) (by decide)) (keyOf_string_mk Tryz.underlying9 hx)
  obtain ⟨a, rfl, e, _⟩ := plainElem_int_inv Tryz.underlying3 hv
  obtain ⟨g1, g2⟩ := h3 x hx
  rw [g2] at e
  simp only [Prod.mk.injEq, DataW.lit.injEq, Lit.int.injEq, true_and] at e
  obtain ⟨e, _⟩ := e
  rw [hr, g1, ← e]
theorem PMap.put {W : World} {mb N : Nat} {f : ByteArray → Option Nat} (h : PMap W mb N f) (x : ByteArray) (i : Nat) (hx : x.size ≤ maxLen) (hN : N < maxLen) (hi : i < 9223372036854775808) :
    ∃ W', (Instr.mapUpdate 157 (.map (some mb)) (.string x) (.int .i64 i)).run Tryz.prog W = .ok () W' ∧ PMap W' mb (N + 1) (fun y => if y = x then some i else f y) ∧ W.grownBy W' (some mb) := by
  obtain ⟨D, h1, h3⟩ := h
  obtain ⟨W', r1, r2, r3⟩ := h1.update keyStr Tryz.underlying157 hN (keyOf_string_mk Tryz.underlying9 hx) (plainElem_int (H := Unit) Tryz.underlying3 (wf3 i hi))
  refine ⟨W', r1, ⟨_, r2, fun y hy => ?_⟩, r3⟩
  by_cases e : y = x
  · subst e
    rw [Go.Maps.has_put_same h1.isMap (keyLit y hx), Go.Maps.atKey_put_same h1.isMap (keyLit y hx)]
    simp
  · rw [Go.Maps.has_put_other (fun e' => e (str_inj e')), Go.Maps.atKey_put_other (fun e' => e (str_inj e')), (h3 y hy).1, (h3 y hy).2]
    simp [e]
theorem PMap.congr {W : World} {mb N : Nat} {f g : ByteArray → Option Nat} (h : PMap W mb N f) (e : ∀ x, f x = g x) : PMap W mb N g := by
  rw [show g = f from (funext e).symm]; exact h

theorem lastIx_snoc (s p : ByteArray) : ∀ (l : List ByteArray) (i : Nat), Ep.lastIx s (l ++ [p]) i = if p = s then some (i + l.length) else Ep.lastIx s l i
  | [], i => by simp [Ep.lastIx]
  | a :: r, i => by
    rw [List.cons_append, Ep.lastIx, Ep.lastIx, lastIx_snoc s p r (i + 1)]
    by_cases e : p = s
    · rw [if_pos e, if_pos e, List.length_cons]
      simp; omega
    · rw [if_neg e, if_neg e]

def ParamsPost (w : World) (m : M) (e : Ending) (w' : World) : Prop := ∃ mb N, e = .returned (.map (some mb)) ∧ PMap w' mb N (Ep.parIx m) ∧ w.heap.size ≤ mb ∧ Below w.heap.size w w'
set_option maxRecDepth 100000 in
set_option maxHeartbeats 4000000 in
theorem eparams_any (v : Value) (m : M) (w : World) (hv : MacV w v m) (hps : m.ps.length ≤ 1000000) (hsz : ∀ p ∈ m.ps, p.size ≤ 1000000000) :
    Calls Tryz.prog 91 #[v] w (ParamsPost w m) := by
  obtain ⟨pv, bv, rfl, hp, -⟩ := hv
  obtain ⟨nm, fn, ps, va, body⟩ := m
  dsimp only at hp hps hsz ⊢
  obtain ⟨ad, cap, rfl, hc1, hc2, -⟩ := id hp
  obtain ⟨n, hn⟩ : ∃ n, n = ps.length := ⟨_, rfl⟩
  rw [← hn] at hc1 hps hp ⊢
  have hA : Below w.heap.size w (w.alloc (.cells #[.string nm, .bool fn, .slice ad n cap, .bool va, bv] 32)) := (Below.refl _ w).alloc (Nat.le_refl _) _
  have HP := Lib.hid hp
  have HN := Lib.hid hn
  have HS := Lib.hid hsz
  have hbk := heap_alloc_new w (.cells #[.string nm, .bool fn, .slice ad n cap, .bool va, bv] 32)
  clear hp hn hsz hc1 hc2
  have hA2 : Below w.heap.size w ((w.alloc (.cells #[.string nm, .bool fn, .slice ad n cap, .bool va, bv] 32)).alloc (.map #[] 0)) := hA.alloc (by simp) _
  have hbk2 := (Below.heap_alloc _ (.map #[] 0) _ (lt_of_heap hbk)).trans hbk
  have hP0 : PMap ((w.alloc (.cells #[.string nm, .bool fn, .slice ad n cap, .bool va, bv] 32)).alloc (.map #[] 0)) (w.heap.size + 1) 0 (fun _ => none) := by
    refine ⟨.map [], ?_, fun x _ => ⟨rfl, rfl⟩⟩
    have := World.ownsMap_made (H := Unit) (w.alloc (.cells #[.string nm, .bool fn, .slice ad n cap, .bool va, bv] 32)) Tryz.prog 9 (plainElem Tryz.prog 3)
    rwa [World.size_alloc] at this
  have hmm := @run_makeMap Tryz.prog
  generalize hW1 : ((w.alloc (.cells #[.string nm, .bool fn, .slice ad n cap, .bool va, bv] 32)).alloc (.map #[] 0)) = W1 at hA2 hbk2 hP0
  have HA2 := Lib.hid hA2
  have HP0 := Lib.hid hP0
  have HBK2 := Lib.hid hbk2
  have HW1 := Lib.hid hW1
  clear hA2 hP0 hbk2 hW1 hA
  go_enter Tryz.func91, Tryz.ntmps91
  cases fn with
  | false =>
    go_wp2_with fail
    rw [HW1.out]
    go_ret
    exact ⟨_, _, rfl, HP0.out.congr (fun x => rfl), by omega, HA2.out⟩
  | true =>
    go_wp2_with fail
    rw [HW1.out]
    clear hbk
    go_loopw [14] (fun a wr => ∃ k : Nat, a = .int .i64 k ∧ k ≤ n ∧ PMap wr (w.heap.size + 1) k (fun x => Ep.lastIx x (ps.take k) 0) ∧ wr.heap[w.heap.size]? = some (.cells #[.string nm, .bool true, .slice ad n cap, .bool va, bv] 32 (0, 0)) ∧ Below w.heap.size w wr) (fun a _ => n - (intOf a).toNat)
    case atStart => exact ⟨0, rfl, Nat.zero_le _, HP0.out, HBK2.out, HA2.out⟩
    case round =>
      obtain ⟨k, rfl, hk, hpm, hbx, hB⟩ := hrel
      by_cases hlt : k < n
      · have hk' : k < ps.length := by rw [← HN.out]; exact hlt
        obtain ⟨s, hs⟩ : ∃ s, ps[k]? = some s := ⟨_, List.getElem?_eq_getElem hk'⟩
        have hsz := HS.out s (List.mem_of_getElem? hs)
        obtain ⟨ad', cap', e, -, -, h3⟩ := HP.out
        injection e with e1 e2 e3
        obtain ⟨g, o, e4, hc⟩ := h3 k s hs
        rw [← e1] at e4
        subst e4
        have hc1 : wr.cell? ⟨g, o + k, none⟩ = some (.string s) := (hB.cell (p := ⟨g, o + k, none⟩) (lt_of_cell hc)).trans hc
        obtain ⟨W2, r1, r2, r3⟩ := hpm.put s k (by unfold maxLen; omega) (by unfold maxLen; omega) (by omega)
        have hbx2 := (r3.block _ (lt_of_heap hbx) (by simp)).trans hbx
        have hB2 := hB.grown r3 hB.size (fun j e => by cases e; omega)
        have hT : ps.take (k + 1) = ps.take k ++ [s] := by rw [List.take_succ_eq_append_getElem hk', (List.getElem?_eq_some_iff.1 hs).2]
        have r2' : PMap W2 (w.heap.size + 1) (k + 1) (fun x => Ep.lastIx x (ps.take (k + 1)) 0) := r2.congr (fun x => by
          rw [hT, lastIx_snoc, List.length_take, Nat.min_eq_left (Nat.le_of_lt hk'), Nat.zero_add]
          by_cases e : x = s
          · rw [if_pos e, if_pos e.symm]
          · rw [if_neg e, if_neg (fun e' => e e'.symm)])
        obtain ⟨c0, c1, c2, c3, c4⟩ : wr.cell? ⟨w.heap.size, 0, none⟩ = some (.string nm) ∧ wr.cell? ⟨w.heap.size, 1, none⟩ = some (.bool true) ∧ wr.cell? ⟨w.heap.size, 2, none⟩ = some (.slice (some ⟨g, o, none⟩) n cap) ∧ wr.cell? ⟨w.heap.size, 3, none⟩ = some (.bool va) ∧ wr.cell? ⟨w.heap.size, 4, none⟩ = some bv :=
          ⟨(Lib.cell_of_heap hbx 0).trans rfl, (Lib.cell_of_heap hbx 1).trans rfl, (Lib.cell_of_heap hbx 2).trans rfl, (Lib.cell_of_heap hbx 3).trans rfl, (Lib.cell_of_heap hbx 4).trans rfl⟩
        have x1 : (0 : Int) ≤ k := by omega
        have x2 : (k : Int) < n := by omega
        have H1 := Lib.hid r2'
        have H2 := Lib.hid hbx2
        have H3 := Lib.hid hB2
        clear hpm hbx hB r2 r2' hbx2 hB2 hT r3 hs hc h3 e1 e2 e3
        go_wp2_with fail
        go_roundw
        case rel => exact ⟨k + 1, by go_num, by omega, H1.out, H2.out, H3.out⟩
        case measure => simp [intOf]; omega
      · obtain rfl : k = n := by omega
        have hT : ps.take k = ps := List.take_of_length_le (by rw [← HN.out]; exact Nat.le_refl _)
        rw [hT] at hpm
        obtain ⟨c0, c1, c2, c3, c4⟩ : wr.cell? ⟨w.heap.size, 0, none⟩ = some (.string nm) ∧ wr.cell? ⟨w.heap.size, 1, none⟩ = some (.bool true) ∧ wr.cell? ⟨w.heap.size, 2, none⟩ = some (.slice ad k cap) ∧ wr.cell? ⟨w.heap.size, 3, none⟩ = some (.bool va) ∧ wr.cell? ⟨w.heap.size, 4, none⟩ = some bv :=
          ⟨(Lib.cell_of_heap hbx 0).trans rfl, (Lib.cell_of_heap hbx 1).trans rfl, (Lib.cell_of_heap hbx 2).trans rfl, (Lib.cell_of_heap hbx 3).trans rfl, (Lib.cell_of_heap hbx 4).trans rfl⟩
        cases va with
        | false =>
          have H1 := Lib.hid hpm
          have H3 := Lib.hid hB
          clear hpm hbx hB hT
          go_wp2_with fail
          go_ret
          exact ⟨_, _, rfl, H1.out.congr (fun x => rfl), by omega, H3.out⟩
        | true =>
          obtain ⟨W2, r1, r2, r3⟩ := hpm.put VA k (by decide) (by unfold maxLen; omega) (by omega)
          have hB2 := hB.grown r3 hB.size (fun j e => by cases e; omega)
          have r2' : PMap W2 (w.heap.size + 1) (k + 1) (Ep.parIx ⟨nm, true, ps, true, body⟩) := r2.congr (fun x => by
            unfold Ep.parIx
            dsimp only
            rw [if_pos rfl, Bool.true_and, ← HN.out]
            by_cases e : x = VA
            · rw [if_pos e, if_pos (by simpa using e)]
            · rw [if_neg e, if_neg (by simpa using e)])
          have H1 := Lib.hid r2'
          have H3 := Lib.hid hB2
          dsimp only [VA] at r1
          clear hpm hbx hB hT r2 r2' r3 hB2
          go_wp2_with fail
          go_ret
          exact ⟨_, _, rfl, H1.out, by omega, H3.out⟩
end Go.Proofs.YtlepnafgcmeimaaGreatDoor

/- What is proved: what lined and bare tell. -/
namespace Go.Proofs.YtlepnafgcmeimaaGreatDoor
open Go.RowKit Go.Shelf
open Ep (HT)

theorem ks_at {W : World} {g o n cap : Nat} {ts : List K} (h : Ks W (.slice (some ⟨g, o, none⟩) n cap) ts) {i : Nat} {t : K} (ht : ts[i]? = some t) : KAt W g (o + i * 6) t := by
  obtain ⟨ad', cap', e, -, -, h3⟩ := h
  injection e with e1 e2 e3
  obtain ⟨g', o', e', c⟩ := h3 i t ht
  rw [← e1] at e'
  injection e' with e'
  injection e' with e4 e5
  subst e4 e5
  exact c
theorem ks_some {W : World} {ad : Option Addr} {n cap : Nat} {ts : List K} (h : Ks W (.slice ad n cap) ts) {i : Nat} {t : K} (ht : ts[i]? = some t) : ∃ g o, ad = some ⟨g, o, none⟩ ∧ KAt W g (o + i * 6) t := by
  obtain ⟨ad', cap', e, -, -, h3⟩ := h
  injection e with e1 e2 e3
  obtain ⟨g, o, e', c⟩ := h3 i t ht
  exact ⟨g, o, e1.trans e', c⟩
theorem hs_some {W : World} {ad : Option Addr} {n cap : Nat} {l : List HT} (h : Hs W (.slice ad n cap) l) {i : Nat} {x : HT} (hx : l[i]? = some x) : ∃ g o, ad = some ⟨g, o, none⟩ ∧ HAt W g (o + i * 8) x := by
  obtain ⟨ad', cap', e, -, -, h3⟩ := h
  injection e with e1 e2 e3
  obtain ⟨g, o, e', c⟩ := h3 i x hx
  exact ⟨g, o, e1.trans e', c⟩
theorem Kept.trans {t : TypeId} {w w1 w' : World} (h : Kept t w w1) (k : Kept t w1 w') : Kept t w w' := fun b cs fz hb => k b cs fz (h b cs fz hb)
theorem Kept.alloc (t : TypeId) (w : World) (o : Obj) : Kept t w (w.alloc o) := Kept.of_below ((Below.refl _ w).alloc (Nat.le_refl _) o) t
theorem Kept.alloc2 (t : TypeId) (w : World) (o p : Obj) : Kept t w ((w.alloc o).alloc p) := (Kept.alloc t w o).trans (Kept.alloc t _ p)
theorem row_kept {t e : TypeId} {w w' : World} {B sz n : Nat} {v : Value} {xs : List Value} (h : w.ownsRow B e sz v n xs) (hg : w.grownBy w' v.ownBlock) (ht : t ≠ e) : Kept t w w' := fun b cs fz hb => by
  refine (hg.block b (Array.getElem?_eq_some_iff.1 hb).1 fun e' => ?_).trans hb
  rcases h.2 with ⟨h', _⟩ | ⟨g', cap', cur, h', _, h2', _⟩
  · rw [h'] at e'; cases e'
  · rw [h'] at e'
    simp only [Value.ownBlock, Option.some.injEq] at e'
    rw [← e', hb] at h2'
    injection h2' with h2'
    injection h2' with _ h3 _
    exact ht h3
theorem Ep.lined_len : ∀ (b : Bool) (l : List K), (Ep.lined b l).length ≤ l.length
  | _, [] => Nat.le_refl _
  | b, t :: r => by
    unfold Ep.lined
    split
    · have := Ep.lined_len true r; simp; omega
    · have := Ep.lined_len false r; simp; omega

def LinedPost (w : World) (l : List HT) (e : Ending) (w' : World) : Prop := ∃ u, e = .returned u ∧ HRow w' w.heap.size u l ∧ Below w.heap.size w w'
set_option maxRecDepth 100000 in
set_option maxHeartbeats 4000000 in
theorem elined_any (v : Value) (l : List K) (w : World) (hv : Ks w v l) (hl : l.length ≤ 1000000) :
    Calls Tryz.prog 22 #[v] w (LinedPost w (Ep.lined false l)) := by
  obtain ⟨i0, hi, hz0, hz1, hz2⟩ := info_parts infoHt
  obtain ⟨ad, cap, rfl, h1, h2, -⟩ := id hv
  obtain ⟨n, hn⟩ : ∃ n, n = l.length := ⟨_, rfl⟩
  rw [← hn] at hv h1 hl ⊢
  have HV := Lib.hid hv
  have Hn := Lib.hid hn
  clear hv hn h1 h2
  go_enter Tryz.func22, Tryz.ntmps22
  go_wp2_with (at_make; refine wpList_make_own _ rfl _ _ 54 rfl w.heap.size 92 i0 _ 8 Tryz.underlying54 hi hz0 hz1 .i64 .i64 _ n rfl rfl rfl (by rw [hz2]; omega) (by unfold maxLen; omega) (Nat.le_refl _) ?_; intro w1 hrow1 hg1)
  have hB1 : Below w.heap.size w w1 := (Below.refl _ w).grown hg1 (Nat.le_refl _) (fun _ e => by cases e)
  have HR1 := Lib.hid hrow1
  have HB1 := Lib.hid hB1
  clear hrow1 hg1 hB1
  go_loopw [3, 4, 12] (fun o p a wr => ∃ (k : Nat) (b : Bool) (acc : List HT), a = .int .i64 k ∧ k ≤ n ∧ p = .bool b ∧ HRow wr w.heap.size o acc ∧ acc.length ≤ k ∧ Ep.lined false l = acc ++ Ep.lined b (l.drop k) ∧ Below w.heap.size w wr) (fun _ _ a _ => n - (intOf a).toNat)
  case atStart => exact ⟨0, false, [], rfl, Nat.zero_le _, rfl, ⟨[], HR1.out, rfl⟩, Nat.le_refl _, rfl, HB1.out⟩
  case round =>
    obtain ⟨k, b, acc, rfl, hk, rfl, hrow, hacc, hlin, hB⟩ := hrel
    by_cases hlt : k < n
    · obtain ⟨t, ht⟩ : ∃ t, l[k]? = some t := ⟨_, List.getElem?_eq_getElem (by rw [← Hn.out]; exact hlt)⟩
      have hd : l.drop k = t :: l.drop (k + 1) := by
        rw [List.drop_eq_getElem_cons (by rw [← Hn.out]; exact hlt)]
        rw [List.getElem?_eq_getElem (by rw [← Hn.out]; exact hlt)] at ht
        injection ht with ht
        rw [ht]
      rw [hd, Ep.lined] at hlin
      obtain ⟨g, o, rfl, d0, d1, d2, d3, d4, d5⟩ := ks_some (HV.out.below hB) ht
      have HROW := Lib.hid hrow
      obtain ⟨cs, hrow, hcs⟩ := hrow
      have HCS := Lib.hid hcs
      have HLIN := Lib.hid hlin
      have HB := Lib.hid hB
      have hbs := hB.size
      obtain ⟨kd, tx, f, fr, en, bl⟩ := t
      dsimp only at d0 d1 d2 d3 d4 d5 HLIN
      clear ht hd hcs hlin hB
      have z1 : (0 : Int) ≤ k := by omega
      have z2 : (k : Int) < n := by omega
      have hgl := lt_of_cell d0
      by_cases h7 : kd = 7
      · subst h7
        go_wp2_with fail
        go_roundw
        case rel =>
          refine ⟨k + 1, true, acc, by go_num, by omega, rfl, HROW.out.below ((Below.refl _ _).alloc (Nat.le_refl _) _), by omega, ?_, HB.out.alloc hbs _⟩
          have := HLIN.out
          rw [if_pos rfl] at this
          exact this
        case measure => simp [intOf]; omega
      · have q7 : (kd == 7) = false := by simpa using h7
        cases bl
        · skip
          go_wp2_with (at_builtin; refine wpList_append_lies _ rfl _ _ 54 rfl w.heap.size 92 i0 _ 8 72 Tryz.underlying54 hi hz0 hz1 hz2 rfl (by decide) _ acc.length cs rfl ((hrow.alloc _).alloc _) ⟨wr.heap.size + 1, 0, none⟩ 1 1 (htCells (HT.of ⟨kd, tx, f, fr, en, b⟩) none) rfl rfl (World.news_of_block (cs := #[.int .i64 kd, .string tx, .int .i64 f, .int .i64 fr, .int .i64 en, .bool b, .pointer none, .bool false]) (t := 92) (fr := (0, 0)) (heap_alloc2_new wr _ _)) (by simp [Value.oneCell', htCells, kCells]) (by decide) (by unfold maxLen; omega) (by omega) (by simp; omega) _ rfl ?_; intro gg cap' w2 hown hgrow hat hlt2)
          go_roundw
          case rel =>
            refine ⟨k + 1, false, acc ++ [HT.of ⟨kd, tx, f, fr, en, b⟩], by go_num, by omega, rfl, ⟨cs ++ htCells (HT.of ⟨kd, tx, f, fr, en, b⟩) none, by rw [List.length_append]; exact hown, ?_⟩, by simp; omega, ?_, ?_⟩
            · exact (HCS.out.keep ((Kept.alloc2 _ _ _ _).trans (row_kept ((hrow.alloc _).alloc _) hgrow (by decide)))).snoc (HidP.zero _)
            · have := HLIN.out
              rw [if_neg h7] at this
              rw [this, List.append_assoc]
              simp [Ep.blK]
            · exact ((HB.out.alloc hbs _).alloc (by simp; omega) _).grown hgrow (by simp; omega) (fun i e => (hrow.lt i e).1)
          case measure => simp [intOf]; omega
        · skip
          go_wp2_with (at_builtin; refine wpList_append_lies _ rfl _ _ 54 rfl w.heap.size 92 i0 _ 8 72 Tryz.underlying54 hi hz0 hz1 hz2 rfl (by decide) _ acc.length cs rfl ((hrow.alloc _).alloc _) ⟨wr.heap.size + 1, 0, none⟩ 1 1 (htCells (HT.of ⟨kd, tx, f, fr, en, true⟩) none) rfl rfl (World.news_of_block (cs := #[.int .i64 kd, .string tx, .int .i64 f, .int .i64 fr, .int .i64 en, .bool true, .pointer none, .bool false]) (t := 92) (fr := (0, 0)) (heap_alloc2_new wr _ _)) (by simp [Value.oneCell', htCells, kCells]) (by decide) (by unfold maxLen; omega) (by omega) (by simp; omega) _ rfl ?_; intro gg cap' w2 hown hgrow hat hlt2)
          go_roundw
          case rel =>
            refine ⟨k + 1, false, acc ++ [HT.of ⟨kd, tx, f, fr, en, true⟩], by go_num, by omega, rfl, ⟨cs ++ htCells (HT.of ⟨kd, tx, f, fr, en, true⟩) none, by rw [List.length_append]; exact hown, ?_⟩, by simp; omega, ?_, ?_⟩
            · exact (HCS.out.keep ((Kept.alloc2 _ _ _ _).trans (row_kept ((hrow.alloc _).alloc _) hgrow (by decide)))).snoc (HidP.zero _)
            · have := HLIN.out
              rw [if_neg h7] at this
              rw [this, List.append_assoc]
              simp [Ep.blK]
            · exact ((HB.out.alloc hbs _).alloc (by simp; omega) _).grown hgrow (by simp; omega) (fun i e => (hrow.lt i e).1)
          case measure => simp [intOf]; omega
    · obtain rfl : k = n := by omega
      have he : l.drop k = [] := List.drop_eq_nil_of_le (by rw [← Hn.out]; exact Nat.le_refl _)
      rw [he] at hlin
      have HLIN := Lib.hid hlin
      have HROW := Lib.hid hrow
      have HB := Lib.hid hB
      clear hlin hrow hB he
      go_wp2_with fail
      go_ret
      refine ⟨_, rfl, ?_, HB.out⟩
      have := HLIN.out
      rw [show Ep.lined b [] = [] from rfl, List.append_nil] at this
      rw [this]
      exact HROW.out
end Go.Proofs.YtlepnafgcmeimaaGreatDoor

/- What is proved: what bare tells. -/
namespace Go.Proofs.YtlepnafgcmeimaaGreatDoor
open Go.RowKit Go.Shelf
open Ep (HT)

def BareHPost (w : World) (l : List HT) (e : Ending) (w' : World) : Prop := ∃ u, e = .returned u ∧ w'.ownsRow w.heap.size 30 6 u l.length (ksCells (Ep.bareH l)) ∧ Below w.heap.size w w'
theorem bareH_take (l : List HT) (k : Nat) (x : HT) (hx : l[k]? = some x) : ksCells (Ep.bareH (l.take (k + 1))) = ksCells (Ep.bareH (l.take k)) ++ kCells x.t := by
  have hk := (List.getElem?_eq_some_iff.1 hx).1
  have h2 := (List.getElem?_eq_some_iff.1 hx).2
  unfold Ep.bareH
  rw [List.take_succ_eq_append_getElem hk, List.map_append, ksCells_append, h2]
  simp [ksCells]
set_option maxRecDepth 100000 in
set_option maxHeartbeats 4000000 in
theorem ebare_any (v : Value) (l : List HT) (w : World) (hv : Hs w v l) (hl : l.length ≤ 1000000) :
    Calls Tryz.prog 23 #[v] w (BareHPost w l) := by
  obtain ⟨i0, hi, hz0, hz1, hz2⟩ := info_parts infoTok
  obtain ⟨ad, cap, rfl, h1, h2, -⟩ := id hv
  obtain ⟨n, hn⟩ : ∃ n, n = l.length := ⟨_, rfl⟩
  rw [← hn] at hv h1 hl
  have HV := Lib.hid hv
  have Hn := Lib.hid hn
  rw [← hn]
  clear hv hn h1 h2
  go_enter Tryz.func23, Tryz.ntmps23
  go_wp2_with (at_make; refine wpList_make_own _ rfl _ _ 27 rfl w.heap.size 30 i0 _ 6 Tryz.underlying27 hi hz0 hz1 .i64 .i64 _ n rfl rfl rfl (by rw [hz2]; omega) (by unfold maxLen; omega) (Nat.le_refl _) ?_; intro w1 hrow1 hg1)
  have hB1 : Below w.heap.size w w1 := (Below.refl _ w).grown hg1 (Nat.le_refl _) (fun _ e => by cases e)
  have HR1 := Lib.hid hrow1
  have HB1 := Lib.hid hB1
  clear hrow1 hg1 hB1
  go_loopw [3, 10] (fun o a wr => ∃ (k : Nat), a = .int .i64 k ∧ k ≤ n ∧ wr.ownsRow w.heap.size 30 6 o k (ksCells (Ep.bareH (l.take k))) ∧ Below w.heap.size w wr) (fun _ a _ => n - (intOf a).toNat)
  case atStart => exact ⟨0, rfl, Nat.zero_le _, HR1.out, HB1.out⟩
  case round =>
    obtain ⟨k, rfl, hk, hrow, hB⟩ := hrel
    by_cases hlt : k < n
    · obtain ⟨x, hx⟩ : ∃ x, l[k]? = some x := ⟨_, List.getElem?_eq_getElem (by rw [← Hn.out]; exact hlt)⟩
      obtain ⟨g, o, rfl, -, ⟨d0, d1, d2, d3, d4, d5⟩, -⟩ := hs_some (HV.out.below hB) hx
      have HT := Lib.hid (bareH_take l k x hx)
      have HB := Lib.hid hB
      have hbs := hB.size
      obtain ⟨⟨kd, tx, f, fr, en, bl⟩, hd, mk⟩ := x
      dsimp only at d0 d1 d2 d3 d4 d5
      obtain ⟨cs, hcs⟩ : ∃ cs, cs = ksCells (Ep.bareH (l.take k)) := ⟨_, rfl⟩
      rw [← hcs] at hrow HT
      clear hx hB hcs
      have z1 : (0 : Int) ≤ k := by omega
      have z2 : (k : Int) < n := by omega
      have hgl := lt_of_cell d0
      go_wp2_with (at_builtin; refine wpList_append_lies _ rfl _ _ 27 rfl w.heap.size 30 i0 _ 6 56 Tryz.underlying27 hi hz0 hz1 hz2 rfl (by decide) _ k cs rfl (hrow.alloc _) ⟨wr.heap.size, 0, none⟩ 1 1 (kCells ⟨kd, tx, f, fr, en, bl⟩) rfl rfl (World.news_of_block (cs := #[.int .i64 kd, .string tx, .int .i64 f, .int .i64 fr, .int .i64 en, .bool bl]) (t := 30) (fr := (0, 0)) (heap_alloc_new wr _)) (by simp [Value.oneCell', kCells]) (by decide) (by unfold maxLen; omega) (by omega) (by simp; omega) _ rfl ?_; intro gg cap' w2 hown hgrow hat hlt2)
      go_roundw
      case rel =>
        refine ⟨k + 1, by go_num, by omega, ?_, ?_⟩
        · rw [HT.out]; exact hown
        · exact (HB.out.alloc hbs _).grown hgrow (by simp; omega) (fun i e => (hrow.lt i e).1)
      case measure => simp [intOf]; omega
    · obtain rfl : k = n := by omega
      rw [List.take_of_length_le (by rw [← Hn.out]; exact Nat.le_refl _)] at hrow
      have HROW := Lib.hid hrow
      have HB := Lib.hid hB
      clear hrow hB
      go_wp2_with fail
      go_ret
      refine ⟨_, rfl, ?_, HB.out⟩
      rw [← Hn.out]
      exact HROW.out
end Go.Proofs.YtlepnafgcmeimaaGreatDoor
