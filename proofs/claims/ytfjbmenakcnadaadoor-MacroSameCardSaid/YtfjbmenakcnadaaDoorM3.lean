/- What is proved: what name does. -/
import Derived.Test.YtfjbmenakcnadaaDoorM2
namespace Go.Proofs.YtfjbmenakcnadaaDoor
open Go.RowKit Go.Shelf

theorem lit_beq (t : ByteArray) (l : List UInt8) : (t.toList == l) = decide (t = ⟨l.toArray⟩) := by
  rw [← ba_beq, Lib.toList_data ⟨l.toArray⟩]
theorem lit_no {t : ByteArray} {l : List UInt8} (h : ¬ t = ⟨l.toArray⟩) : (t.toList == l) = false := by rw [lit_beq]; exact decide_eq_false h
theorem lit_yes {t : ByteArray} {l : List UInt8} (h : t = ⟨l.toArray⟩) : (t.toList == l) = true := by rw [lit_beq]; exact decide_eq_true h
theorem Lf.tl {W : World} {base g o n cap : Nat} {t : K} {r : List K} (h : Lf W base (.slice (some ⟨g, o, none⟩) (n + 1) cap) (t :: r)) (x : Nat) (hx : 1 < cap → x = 6) :
    Lf W base (.slice (some ⟨g, o + x, none⟩) n (cap - 1)) r := h.part 1 (by simp) x hx
theorem Lf.tl2 {W : World} {base g o n cap : Nat} {t u : K} {r : List K} (h : Lf W base (.slice (some ⟨g, o, none⟩) (n + 2) cap) (t :: u :: r)) (x : Nat) (hx : 2 < cap → x = 12) :
    Lf W base (.slice (some ⟨g, o + x, none⟩) n (cap - 2)) r := h.part 2 (by simp) x hx

def RdPost (base R mb : Nat) (nm : ByteArray) (fn : Bool) (pv : Value) (ps : List ByteArray) (va : Bool) (bv : Value) (l : List K) (w : World) (e : Ending) (w' : World) : Prop :=
  e = .returned (.tuple #[]) ∧ ∃ lv, Rd w' base R mb nm fn pv ps va bv lv l ∧ Below base w w'

set_option maxRecDepth 100000 in
set_option maxHeartbeats 4000000 in
theorem name_ok (base R mb : Nat) (nm : ByteArray) (fn : Bool) (pv : Value) (ps : List ByteArray) (va : Bool) (bv lv : Value) (t : K) (r : List K) (w : World)
    (h : Rd w base R mb nm fn pv ps va bv lv (t :: r)) (ht : Mx.nameOk t = true) :
    Calls Tryd.prog 52 #[.pointer (some ⟨R, 0, none⟩)] w (RdPost base R mb t.text fn pv ps va bv r w) := by
  obtain ⟨g, o, cap, rfl, hc1, hc2, hg, hc⟩ := id h.lf
  have c5 := (h.cell 5).trans rfl
  have c0 := (h.cell 0).trans rfl
  have f0 := h.froz 0
  have f5 := h.froz 5
  have hR := h.ltR
  have hbR := h.hR
  have hgR : ¬ g = R := by omega
  have hRg : ¬ R = g := by omega
  obtain ⟨k0, k1, -, -, -, -⟩ := hc 0 t rfl
  simp only [Nat.zero_mul, Nat.add_zero] at k0 k1
  simp only [List.length_cons] at hc1 c5
  obtain ⟨n, hn⟩ : ∃ n, n = r.length := ⟨_, rfl⟩
  rw [← hn] at hc1 c5
  obtain ⟨kind, tx, f, a, b, bl⟩ := t
  dsimp only at k0 k1 ⊢
  simp only [Mx.nameOk, Bool.and_eq_true, beq_iff_eq, Bool.not_eq_true', decide_eq_false_iff_not] at ht
  obtain ⟨rfl, hd, hv⟩ := ht
  have t1 : (tx.toList == [100, 101, 102, 105, 110, 101, 100]) = false := lit_no hd
  have t2 : (tx.toList == [95, 95, 86, 65, 95, 65, 82, 71, 83, 95, 95]) = false := lit_no hv
  have HH := Lib.hid h
  have Hn := Lib.hid hn
  clear h hc hn hd hv
  go_enter Tryd.func52, Tryd.ntmps52
  go_wp2_with fail
  refine (must_ok 60 _).mono ?_
  rintro e w1 ⟨rfl, rfl⟩
  go_wp2_with fail
  refine (must_ok 60 _).mono ?_
  rintro e w2 ⟨rfl, rfl⟩
  rcases Decidable.em (cap = 1) with rfl | hcap
  · obtain rfl : n = 0 := by omega
    go_wp2_with fail
    go_end0
    have hL := Lf.tl (n := 0) (by rw [Hn.out]; exact (HH.out.setName tx).lf) 0 (by omega)
    exact ⟨rfl, _, (HH.out.setName tx).setLeft hL, ((Below.refl _ _).setCell hbR _).setCell hbR _⟩
  · go_wp2_with fail
    go_end0
    exact ⟨rfl, _, (HH.out.setName tx).setLeft (Lf.tl (n := n) (by rw [Hn.out]; exact (HH.out.setName tx).lf) 6 (by omega)), ((Below.refl _ _).setCell hbR _).setCell hbR _⟩
def BadPost (base : Nat) (err : Int) (w : World) (e : Ending) (w' : World) : Prop := e = thrown err ∧ Below base w w'

set_option maxRecDepth 100000 in
set_option maxHeartbeats 4000000 in
theorem name_nil (base R : Nat) (ad : Option Addr) (cap : Nat) (w : World) (c5 : w.cell? ⟨R, 5, none⟩ = some (.slice ad 0 cap)) :
    Calls Tryd.prog 52 #[.pointer (some ⟨R, 0, none⟩)] w (BadPost base 60 w) := by
  go_enter Tryd.func52, Tryd.ntmps52
  go_wp2_with fail
  refine (must_no 60 _).mono ?_
  rintro e w1 ⟨rfl, rfl⟩
  exact ⟨rfl, rfl, Below.refl _ _⟩

set_option maxRecDepth 100000 in
set_option maxHeartbeats 4000000 in
theorem name_bad (base R mb : Nat) (nm : ByteArray) (fn : Bool) (pv : Value) (ps : List ByteArray) (va : Bool) (bv lv : Value) (t : K) (r : List K) (w : World)
    (h : Rd w base R mb nm fn pv ps va bv lv (t :: r)) (ht : Mx.nameOk t = false) :
    Calls Tryd.prog 52 #[.pointer (some ⟨R, 0, none⟩)] w (BadPost base 60 w) := by
  obtain ⟨g, o, cap, rfl, hc1, hc2, hg, hc⟩ := id h.lf
  have c5 := (h.cell 5).trans rfl
  have c0 := (h.cell 0).trans rfl
  have f0 := h.froz 0
  have f5 := h.froz 5
  have hR := h.ltR
  have hbR := h.hR
  have hgR : ¬ g = R := by omega
  have hRg : ¬ R = g := by omega
  obtain ⟨k0, k1, -, -, -, -⟩ := hc 0 t rfl
  simp only [Nat.zero_mul, Nat.add_zero] at k0 k1
  simp only [List.length_cons] at hc1 c5
  obtain ⟨n, hn⟩ : ∃ n, n = r.length := ⟨_, rfl⟩
  rw [← hn] at hc1 c5
  obtain ⟨kind, tx, f, a, b, bl⟩ := t
  dsimp only at k0 k1 ⊢
  simp only [Mx.nameOk, Bool.and_eq_false_iff, beq_eq_false_iff_ne, Bool.not_eq_false', decide_eq_true_iff] at ht
  clear h hc hn
  by_cases h1 : kind = 1
  · subst h1
    by_cases hd : tx = Mx.DF
    · have t1 : (tx.toList == [100, 101, 102, 105, 110, 101, 100]) = true := lit_yes hd
      clear ht hd
      go_enter Tryd.func52, Tryd.ntmps52
      go_wp2_with fail
      refine (must_ok 60 _).mono ?_
      rintro e w1 ⟨rfl, rfl⟩
      go_wp2_with fail
      refine (must_no 60 _).mono ?_
      rintro e w2 ⟨rfl, rfl⟩
      exact ⟨rfl, rfl, (Below.refl _ _).setCell hbR _⟩
    · have t1 : (tx.toList == [100, 101, 102, 105, 110, 101, 100]) = false := lit_no hd
      have t2 : (tx.toList == [95, 95, 86, 65, 95, 65, 82, 71, 83, 95, 95]) = true := lit_yes (show tx = Mx.VA by simpa [hd] using ht)
      clear ht hd
      go_enter Tryd.func52, Tryd.ntmps52
      go_wp2_with fail
      refine (must_ok 60 _).mono ?_
      rintro e w1 ⟨rfl, rfl⟩
      go_wp2_with fail
      refine (must_no 60 _).mono ?_
      rintro e w2 ⟨rfl, rfl⟩
      exact ⟨rfl, rfl, (Below.refl _ _).setCell hbR _⟩
  · have t3 : (kind == 1) = false := by simpa using h1
    clear ht h1
    go_enter Tryd.func52, Tryd.ntmps52
    go_wp2_with fail
    refine (must_no 60 _).mono ?_
    rintro e w1 ⟨rfl, rfl⟩
    exact ⟨rfl, rfl, Below.refl _ _⟩
end Go.Proofs.YtfjbmenakcnadaaDoor
