/- What is proved: operands and expressions are read as the document says, so deep. (and what stands with it) -/
import Derived.Test.YtognifnalfjdgaaGreatDoorGf
import Derived.Deep.QuietTactic
import Derived.BigQuiet
import Derived.Test.YtognifnalfjdgaaGreatDoorGd
import Derived.Laws.OwnMore
import Derived.Tactics
import Derived.Deep.AppendLies
import Derived.Shelf.Pu.ToErrorRange
import Derived.Shelf.Pu.ToError
import Derived.Test.YtognifnalfjdgaaGreatDoorGe
import Derived.Lib.ConvBytes
import Derived.Laws.Closers25
import Derived.Laws.Closers25b

/- What is proved: operands and expressions are read as the document says, so deep. -/
namespace Go.Proofs.YtognifnalfjdgaaGreatDoor
open Go.RowKit Go.Shelf
open Ie (E Rd)

def Ie.nv : Option Nat → Int
  | none => 0
  | some n => n
def Ie.ne : Option Nat → Int
  | none => 91
  | some _ => 0
/-- A function that tells a number. -/
def NumC (f : FuncId) (spec : List UInt8 → Option Nat) : Prop := ∀ (s : ByteArray) (w : World), Gv w → s.size ≤ 1000000 →
  Calls Tryz.prog f #[.string s] w fun e w' => e = .returned (.tuple #[.int .i64 (Ie.nv (spec s.data.toList)), .int .i64 (Ie.ne (spec s.data.toList))]) ∧ Below w.heap.size w w'
theorem Ie.ofNum_bad (q : Option Nat) (e : Int) : (if Ie.ne q = 0 then e else Ie.ne q) = (if (Ie.ofNum q).isBad = true then 91 else e) := by cases q <;> rfl
theorem Ex.ofNum (w : World) (ok : Nat → Prop) (q : Option Nat) : Ex w ok (Ie.ofNum q) (.iface 133 (.int .i64 (Ie.nv q))) := by
  cases q with
  | none => exact .bad
  | some n => exact .num n

set_option maxRecDepth 100000 in
set_option maxHeartbeats 4000000 in
theorem operand_deep (depth : Nat) (h1 : 60 < depth) (h2 : depth ≤ 1000) : Reads 89 [.int .i64 depth] (fun _ => none) := by
  intro R B l b e w hG hR hBw hRS hb hT
  obtain ⟨lv, hbx, ad, cap, rfl, hc1, hc2, -⟩ := id hRS
  obtain ⟨c0, -, -⟩ := box3v hbx
  have K1 := Lib.hid (breaks_any R B l b e w hRS)
  obtain ⟨n, hn⟩ : ∃ n, n = l.length := ⟨_, rfl⟩
  rw [← hn] at c0
  have d1 : (60 : Int) < depth := by omega
  have fin : ∀ w2, Fb R w w2 → RS w2 R B [] true e → RdPost R B none b e w (.returned atom0) w2 := fun w2 hF hR' => ⟨_, _, _, _, rfl, hF, hR', ⟨_, _, rfl⟩, .inr ⟨rfl, rfl, rfl⟩⟩
  have FIN := Lib.hid fin
  clear hG hRS hb hT hbx hn fin hc1 hc2
  rcases Nat.eq_zero_or_pos n with hz | hz
  · subst hz
    go_enter Tryz.func89, Tryz.ntmps89
    go_wp2_with fail
    refine K1.out.mono ?_
    rintro en w2 ⟨rfl, hF2, hRS2⟩
    have H := Lib.hid (FIN.out w2 hF2 hRS2)
    clear hF2 hRS2
    go_wp2_with fail
    go_ret
    exact H.out
  · have zn : ¬ (n : Int) = 0 := by omega
    go_enter Tryz.func89, Tryz.ntmps89
    go_wp2_with fail
    refine K1.out.mono ?_
    rintro en w2 ⟨rfl, hF2, hRS2⟩
    have H := Lib.hid (FIN.out w2 hF2 hRS2)
    clear hF2 hRS2
    go_wp2_with fail
    go_ret
    exact H.out

set_option maxRecDepth 100000 in
set_option maxHeartbeats 8000000 in
theorem operand_any (depth : Nat) (h1 : depth ≤ 60) (o e : Rd) (HN : NumC 13 Ie.number) (HQ : NumC 15 Ie.quote) (HBH : ∀ s, Reads 101 [.string s, .int .i64 ((depth : Int) + 1)] (Ie.behindP s o e)) :
    Reads 89 [.int .i64 depth] (Ie.operS o e) := by
  intro R B l b er w hG hR hBw hRS hb hT
  have d1 : (depth : Int) ≤ 60 := by omega
  have d2 : (0 : Int) ≤ depth := by omega
  cases l with
  | nil =>
    obtain ⟨lv, hbx, ad, cap, rfl, hc1, hc2, -⟩ := id hRS
    obtain ⟨c0, -, -⟩ := box3v hbx
    simp only [List.length_nil] at c0
    have K1 := Lib.hid (breaks_any R B [] b er w hRS)
    clear hG hRS hb hT hbx hc1 hc2
    go_enter Tryz.func89, Tryz.ntmps89
    go_wp2_with fail
    refine K1.out.mono ?_
    rintro en w2 ⟨rfl, hF2, hRS2⟩
    have H := Lib.hid (And.intro hF2 hRS2)
    clear hF2 hRS2
    go_wp2_with fail
    go_ret
    exact ⟨_, _, _, _, rfl, H.out.1, H.out.2, ⟨_, _, rfl⟩, .inr ⟨rfl, rfl, rfl⟩⟩
  | cons t r =>
    have hbf : b = false := by
      cases b with
      | true => have := hb rfl; cases this
      | false => rfl
    subst hbf
    obtain ⟨lv, hbx, hLv⟩ := id hRS
    obtain ⟨g, og, cap, rfl, hc1, hc2, ⟨hg, hgB⟩, hK, htl⟩ := hLv.cons
    unfold maxLen at hc2
    obtain ⟨n, hn⟩ : ∃ n, n = r.length := ⟨_, rfl⟩
    rw [← hn] at hbx hc1 htl
    obtain ⟨c0, -, -⟩ := box3v hbx
    have f0 : w.frozen? ⟨R, 0, none⟩ = false := Lib.frozen_of_heap hbx 0
    have hRw := rdr_lt hbx
    have ht1 : t.text.size ≤ 1000000 := hT.2 t (by simp)
    have HT := Lib.hid hT.tail
    have HG := Lib.hid hG
    have HRB := Lib.hid hBw
    obtain ⟨kd, tx, tf, fr, en, bl⟩ := t
    dsimp only at ht1
    have fin : ∀ (W2 : World) (lv2 : Value), W2 = (w.setCell ⟨R, 0, none⟩ lv2).alloc (.cells #[.int .i64 kd, .string tx, .int .i64 tf, .int .i64 fr, .int .i64 en, .bool bl] 54) → Lv w R B lv2 r →
        RS W2 R B r false er ∧ Fb R w W2 ∧ W2.cell? ⟨w.heap.size, 0, none⟩ = some (.int .i64 kd) ∧ W2.cell? ⟨w.heap.size, 1, none⟩ = some (.string tx) ∧ W2.heap.size = w.heap.size + 1 := fun W2 lv2 e h => by
      have hs1 : (w.setCell ⟨R, 0, none⟩ lv2).heap.size = w.heap.size := by simp [World.setCell]
      have hF1 : Fb R w (w.setCell ⟨R, 0, none⟩ lv2) := (Fb.refl R w).set 0 _
      have hB1 : Below (w.setCell ⟨R, 0, none⟩ lv2).heap.size (w.setCell ⟨R, 0, none⟩ lv2) W2 := by rw [e]; exact Below.alloc (Below.refl _ _) (Nat.le_refl _) _
      have hb2 : W2.heap[w.heap.size]? = some (.cells #[.int .i64 kd, .string tx, .int .i64 tf, .int .i64 fr, .int .i64 en, .bool bl] 54 (0, 0)) := by
        rw [e, ← hs1]; exact heap_alloc_new _ _
      refine ⟨⟨lv2, below_heap hB1 (rdr_set0 hbx _), h.keep (hF1.then hB1)⟩, hF1.then hB1, ?_, ?_, by rw [e]; simp [World.setCell]⟩
      · rw [Lib.cell_of_heap hb2 0]; rfl
      · rw [Lib.cell_of_heap hb2 1]; rfl
    have FIN := Lib.hid fin
    have HTL := Lib.hid htl
    have HHN := Lib.hid HN
    have HHQ := Lib.hid HQ
    have HHB := Lib.hid HBH
    have Hn := Lib.hid hn
    obtain ⟨k0, k1, k2, k3, k4, k5⟩ := hK
    dsimp only at k0 k1 k2 k3 k4 k5
    have z0 : (0 : Int) ≤ n := by omega
    have z1 : (0 : Int) < (n : Int) + 1 := by omega
    have z2 : ((n : Int) + 1 == 0) = false := by rw [beq_eq_false_iff_ne]; omega
    clear hG hRS hLv hbx hb hT htl hn fin HN HQ HBH hBw
    -- what is left once the first is taken
    rcases Decidable.em (cap = 1) with rfl | hcap
    · obtain rfl : n = 0 := by omega
      go_enter Tryz.func89, Tryz.ntmps89
      go_upto_region 5 with (fail)
      obtain ⟨W2, hW2⟩ : ∃ W2, W2 = (w.setCell ⟨R, 0, none⟩ (.slice (some ⟨g, og, none⟩) 0 0)).alloc (.cells #[.int .i64 kd, .string tx, .int .i64 tf, .int .i64 fr, .int .i64 en, .bool bl] 54) := ⟨_, rfl⟩
      rw [← hW2]
      obtain ⟨hRS2, hF2, q0, q1, hs2⟩ := FIN.out W2 _ hW2 (HTL.out 0 (by omega))
      have HRS2 := Lib.hid hRS2
      have HF2 := Lib.hid hF2
      clear hRS2 hF2 hW2
      by_cases h2 : kd = 2
      · have hsp : Ie.operS o e (⟨kd, tx, tf, fr, en, bl⟩ :: r) = some (Ie.ofNum (Ie.number tx.data.toList), r) := if_pos h2
        have HSP := Lib.hid hsp
        have K1 := Lib.hid (HHN.out tx W2 (HG.out.fb hR HF2.out HG.out.pos) ht1)
        obtain ⟨nq, hnq⟩ : ∃ nq, nq = Ie.number tx.data.toList := ⟨_, rfl⟩
        rw [← hnq] at K1 HSP
        obtain ⟨nv, hnv⟩ : ∃ nv, nv = Ie.nv nq := ⟨_, rfl⟩
        obtain ⟨ne, hne⟩ : ∃ ne, ne = Ie.ne nq := ⟨_, rfl⟩
        rw [← hnv, ← hne] at K1
        have HNV := Lib.hid hnv
        have HNE := Lib.hid hne
        clear hsp hnq hnv hne
        go_wp2_with fail
        refine K1.out.mono ?_
        rintro en3 w3 ⟨rfl, hB3⟩
        have K2 := Lib.hid (atom_any R B r false er nv ne w3 (HRS2.out.keep hB3))
        have HF3 := Lib.hid (HF2.out.then hB3)
        clear hB3
        go_wp2_with fail
        refine K2.out.mono ?_
        rintro en4 w4 ⟨rfl, hF4, hRS4⟩
        have H4 := Lib.hid (And.intro hF4 hRS4)
        clear hF4 hRS4
        go_wp2_with fail
        go_ret
        refine ⟨_, r, false, _, rfl, HF3.out.trans H4.out.1, H4.out.2, ⟨_, _, rfl⟩, .inl ⟨Ie.ofNum nq, HSP.out, rfl, ?_, ?_⟩⟩
        · rw [HNE.out]; exact Ie.ofNum_bad nq er
        · rw [HNV.out]; exact Ex.ofNum _ _ nq
      by_cases h3 : kd = 3
      · have hsp : Ie.operS o e (⟨kd, tx, tf, fr, en, bl⟩ :: r) = some (Ie.ofNum (Ie.quote tx.data.toList), r) := (if_neg h2).trans (if_pos h3)
        have HSP := Lib.hid hsp
        have K1 := Lib.hid (HHQ.out tx W2 (HG.out.fb hR HF2.out HG.out.pos) ht1)
        obtain ⟨nq, hnq⟩ : ∃ nq, nq = Ie.quote tx.data.toList := ⟨_, rfl⟩
        rw [← hnq] at K1 HSP
        obtain ⟨nv, hnv⟩ : ∃ nv, nv = Ie.nv nq := ⟨_, rfl⟩
        obtain ⟨ne, hne⟩ : ∃ ne, ne = Ie.ne nq := ⟨_, rfl⟩
        rw [← hnv, ← hne] at K1
        have HNV := Lib.hid hnv
        have HNE := Lib.hid hne
        clear hsp hnq hnv hne
        go_wp2_with fail
        refine K1.out.mono ?_
        rintro en3 w3 ⟨rfl, hB3⟩
        have K2 := Lib.hid (atom_any R B r false er nv ne w3 (HRS2.out.keep hB3))
        have HF3 := Lib.hid (HF2.out.then hB3)
        clear hB3
        go_wp2_with fail
        refine K2.out.mono ?_
        rintro en4 w4 ⟨rfl, hF4, hRS4⟩
        have H4 := Lib.hid (And.intro hF4 hRS4)
        clear hF4 hRS4
        go_wp2_with fail
        go_ret
        refine ⟨_, r, false, _, rfl, HF3.out.trans H4.out.1, H4.out.2, ⟨_, _, rfl⟩, .inl ⟨Ie.ofNum nq, HSP.out, rfl, ?_, ?_⟩⟩
        · rw [HNE.out]; exact Ie.ofNum_bad nq er
        · rw [HNV.out]; exact Ex.ofNum _ _ nq
      by_cases h4 : kd = 1
      · have hsp : Ie.operS o e (⟨kd, tx, tf, fr, en, bl⟩ :: r) = some (.num 0, r) := (if_neg h2).trans ((if_neg h3).trans (if_pos h4))
        have HSP := Lib.hid hsp
        clear hsp
        go_wp2_with fail
        go_ret
        refine ⟨_, r, false, er, rfl, HF2.out, HRS2.out, ⟨_, _, rfl⟩, .inl ⟨_, ?_, rfl, rfl, .num 0⟩⟩
        exact HSP.out
      by_cases h5 : kd = 5
      · have hsp : Ie.operS o e (⟨kd, tx, tf, fr, en, bl⟩ :: r) = Ie.behindP tx o e r := (if_neg h2).trans ((if_neg h3).trans ((if_neg h4).trans (if_pos h5)))
        have HSP := Lib.hid hsp
        have K1 := Lib.hid (HHB.out tx R B r false er W2 (HG.out.fb hR HF2.out HG.out.pos) hR (by have := HF2.out.size; have := HRB.out; omega) HRS2.out (fun h => by cases h) HT.out)
        clear hsp
        go_wp2_with fail
        refine K1.out.mono ?_
        rintro en3 w3 ⟨v, l3, b3, e3, rfl, hF3, hRS3, hIf3, hsp3⟩
        have H3 := Lib.hid (And.intro hF3 (And.intro hRS3 (And.intro hIf3 hsp3)))
        clear hF3 hRS3 hIf3 hsp3
        go_wp2_with fail
        go_ret
        refine ⟨_, l3, b3, e3, rfl, HF2.out.trans H3.out.1, H3.out.2.1, H3.out.2.2.1, ?_⟩
        rcases H3.out.2.2.2 with ⟨T, hT, hb, he, hE⟩ | ⟨hN, hl, hb⟩
        · exact .inl ⟨T, HSP.out.trans hT, hb, he, hE.keep fun x hx => ⟨⟨by have := hx.1; omega, hx.2⟩, rfl⟩⟩
        · exact .inr ⟨HSP.out.trans hN, hl, hb⟩
      · have hsp : Ie.operS o e (⟨kd, tx, tf, fr, en, bl⟩ :: r) = none := (if_neg h2).trans ((if_neg h3).trans ((if_neg h4).trans (if_neg h5)))
        have HSP := Lib.hid hsp
        have K1 := Lib.hid (breaks_any R B r false er W2 HRS2.out)
        clear hsp
        go_wp2_with fail
        refine K1.out.mono ?_
        rintro en3 w3 ⟨rfl, hF3, hRS3⟩
        have H3 := Lib.hid (And.intro hF3 hRS3)
        clear hF3 hRS3
        go_wp2_with fail
        go_ret
        exact ⟨_, _, _, _, rfl, HF2.out.trans H3.out.1, H3.out.2, ⟨_, _, rfl⟩, .inr ⟨HSP.out, rfl, rfl⟩⟩
    · go_enter Tryz.func89, Tryz.ntmps89
      go_upto_region 5 with (fail)
      obtain ⟨W2, hW2⟩ : ∃ W2, W2 = (w.setCell ⟨R, 0, none⟩ (.slice (some ⟨g, og + 6, none⟩) n (cap - 1))).alloc (.cells #[.int .i64 kd, .string tx, .int .i64 tf, .int .i64 fr, .int .i64 en, .bool bl] 54) := ⟨_, rfl⟩
      rw [← hW2]
      obtain ⟨hRS2, hF2, q0, q1, hs2⟩ := FIN.out W2 _ hW2 (HTL.out 6 (fun _ => rfl))
      have HRS2 := Lib.hid hRS2
      have HF2 := Lib.hid hF2
      clear hRS2 hF2 hW2
      by_cases h2 : kd = 2
      · have hsp : Ie.operS o e (⟨kd, tx, tf, fr, en, bl⟩ :: r) = some (Ie.ofNum (Ie.number tx.data.toList), r) := if_pos h2
        have HSP := Lib.hid hsp
        have K1 := Lib.hid (HHN.out tx W2 (HG.out.fb hR HF2.out HG.out.pos) ht1)
        obtain ⟨nq, hnq⟩ : ∃ nq, nq = Ie.number tx.data.toList := ⟨_, rfl⟩
        rw [← hnq] at K1 HSP
        obtain ⟨nv, hnv⟩ : ∃ nv, nv = Ie.nv nq := ⟨_, rfl⟩
        obtain ⟨ne, hne⟩ : ∃ ne, ne = Ie.ne nq := ⟨_, rfl⟩
        rw [← hnv, ← hne] at K1
        have HNV := Lib.hid hnv
        have HNE := Lib.hid hne
        clear hsp hnq hnv hne
        go_wp2_with fail
        refine K1.out.mono ?_
        rintro en3 w3 ⟨rfl, hB3⟩
        have K2 := Lib.hid (atom_any R B r false er nv ne w3 (HRS2.out.keep hB3))
        have HF3 := Lib.hid (HF2.out.then hB3)
        clear hB3
        go_wp2_with fail
        refine K2.out.mono ?_
        rintro en4 w4 ⟨rfl, hF4, hRS4⟩
        have H4 := Lib.hid (And.intro hF4 hRS4)
        clear hF4 hRS4
        go_wp2_with fail
        go_ret
        refine ⟨_, r, false, _, rfl, HF3.out.trans H4.out.1, H4.out.2, ⟨_, _, rfl⟩, .inl ⟨Ie.ofNum nq, HSP.out, rfl, ?_, ?_⟩⟩
        · rw [HNE.out]; exact Ie.ofNum_bad nq er
        · rw [HNV.out]; exact Ex.ofNum _ _ nq
      by_cases h3 : kd = 3
      · have hsp : Ie.operS o e (⟨kd, tx, tf, fr, en, bl⟩ :: r) = some (Ie.ofNum (Ie.quote tx.data.toList), r) := (if_neg h2).trans (if_pos h3)
        have HSP := Lib.hid hsp
        have K1 := Lib.hid (HHQ.out tx W2 (HG.out.fb hR HF2.out HG.out.pos) ht1)
        obtain ⟨nq, hnq⟩ : ∃ nq, nq = Ie.quote tx.data.toList := ⟨_, rfl⟩
        rw [← hnq] at K1 HSP
        obtain ⟨nv, hnv⟩ : ∃ nv, nv = Ie.nv nq := ⟨_, rfl⟩
        obtain ⟨ne, hne⟩ : ∃ ne, ne = Ie.ne nq := ⟨_, rfl⟩
        rw [← hnv, ← hne] at K1
        have HNV := Lib.hid hnv
        have HNE := Lib.hid hne
        clear hsp hnq hnv hne
        go_wp2_with fail
        refine K1.out.mono ?_
        rintro en3 w3 ⟨rfl, hB3⟩
        have K2 := Lib.hid (atom_any R B r false er nv ne w3 (HRS2.out.keep hB3))
        have HF3 := Lib.hid (HF2.out.then hB3)
        clear hB3
        go_wp2_with fail
        refine K2.out.mono ?_
        rintro en4 w4 ⟨rfl, hF4, hRS4⟩
        have H4 := Lib.hid (And.intro hF4 hRS4)
        clear hF4 hRS4
        go_wp2_with fail
        go_ret
        refine ⟨_, r, false, _, rfl, HF3.out.trans H4.out.1, H4.out.2, ⟨_, _, rfl⟩, .inl ⟨Ie.ofNum nq, HSP.out, rfl, ?_, ?_⟩⟩
        · rw [HNE.out]; exact Ie.ofNum_bad nq er
        · rw [HNV.out]; exact Ex.ofNum _ _ nq
      by_cases h4 : kd = 1
      · have hsp : Ie.operS o e (⟨kd, tx, tf, fr, en, bl⟩ :: r) = some (.num 0, r) := (if_neg h2).trans ((if_neg h3).trans (if_pos h4))
        have HSP := Lib.hid hsp
        clear hsp
        go_wp2_with fail
        go_ret
        refine ⟨_, r, false, er, rfl, HF2.out, HRS2.out, ⟨_, _, rfl⟩, .inl ⟨_, ?_, rfl, rfl, .num 0⟩⟩
        exact HSP.out
      by_cases h5 : kd = 5
      · have hsp : Ie.operS o e (⟨kd, tx, tf, fr, en, bl⟩ :: r) = Ie.behindP tx o e r := (if_neg h2).trans ((if_neg h3).trans ((if_neg h4).trans (if_pos h5)))
        have HSP := Lib.hid hsp
        have K1 := Lib.hid (HHB.out tx R B r false er W2 (HG.out.fb hR HF2.out HG.out.pos) hR (by have := HF2.out.size; have := HRB.out; omega) HRS2.out (fun h => by cases h) HT.out)
        clear hsp
        go_wp2_with fail
        refine K1.out.mono ?_
        rintro en3 w3 ⟨v, l3, b3, e3, rfl, hF3, hRS3, hIf3, hsp3⟩
        have H3 := Lib.hid (And.intro hF3 (And.intro hRS3 (And.intro hIf3 hsp3)))
        clear hF3 hRS3 hIf3 hsp3
        go_wp2_with fail
        go_ret
        refine ⟨_, l3, b3, e3, rfl, HF2.out.trans H3.out.1, H3.out.2.1, H3.out.2.2.1, ?_⟩
        rcases H3.out.2.2.2 with ⟨T, hT, hb, he, hE⟩ | ⟨hN, hl, hb⟩
        · exact .inl ⟨T, HSP.out.trans hT, hb, he, hE.keep fun x hx => ⟨⟨by have := hx.1; omega, hx.2⟩, rfl⟩⟩
        · exact .inr ⟨HSP.out.trans hN, hl, hb⟩
      · have hsp : Ie.operS o e (⟨kd, tx, tf, fr, en, bl⟩ :: r) = none := (if_neg h2).trans ((if_neg h3).trans ((if_neg h4).trans (if_neg h5)))
        have HSP := Lib.hid hsp
        have K1 := Lib.hid (breaks_any R B r false er W2 HRS2.out)
        clear hsp
        go_wp2_with fail
        refine K1.out.mono ?_
        rintro en3 w3 ⟨rfl, hF3, hRS3⟩
        have H3 := Lib.hid (And.intro hF3 hRS3)
        clear hF3 hRS3
        go_wp2_with fail
        go_ret
        exact ⟨_, _, _, _, rfl, HF2.out.trans H3.out.1, H3.out.2, ⟨_, _, rfl⟩, .inr ⟨HSP.out, rfl, rfl⟩⟩

end Go.Proofs.YtognifnalfjdgaaGreatDoor

/- What is proved: any expression in memory can be asked, and comes to what it comes to. -/
namespace Go.Proofs.YtognifnalfjdgaaGreatDoor
open Go.RowKit Go.Shelf
open Ie (E)

def Ie.Z (p : Int × Int) : Prop := p.2 ≠ 0 → p.1 = 0
theorem Ie.Z_ite (c : Prop) [Decidable c] (p q : Int × Int) (hp : Ie.Z p) (hq : Ie.Z q) : Ie.Z (if c then p else q) := by
  split
  · exact hp
  · exact hq
theorem Ie.Z_ok (n : Int) : Ie.Z (n, 0) := fun h => absurd rfl h
theorem Ie.Z_bad (e : Int) : Ie.Z (0, e) := fun _ => rfl
theorem Ie.two_zero (s : ByteArray) (a b : Int) : (Ie.two s a b).2 ≠ 0 → (Ie.two s a b).1 = 0 := by
  show Ie.Z (Ie.two s a b)
  unfold Ie.two
  repeat' (first | exact Ie.Z_ok _ | exact Ie.Z_bad _ | refine Ie.Z_ite _ _ _ ?_ ?_)
theorem Ie.comes_zero : ∀ x : E, (Ie.comes x).2 ≠ 0 → (Ie.comes x).1 = 0
  | .num n => fun h => absurd rfl h
  | .bad => fun h => absurd rfl h
  | .un s x => by
    unfold Ie.comes
    split
    · intro _; rfl
    · intro h; exact absurd rfl h
  | .bin s x y => by
    unfold Ie.comes
    split
    · intro _; rfl
    · split
      · intro h; exact absurd rfl h
      · split
        · intro _; rfl
        · exact Ie.two_zero _ _ _
  | .ask x y z => by
    unfold Ie.comes
    split
    · intro _; rfl
    · split
      · exact Ie.comes_zero y
      · exact Ie.comes_zero z
theorem Ie.comes_bin (s : ByteArray) (x y : E) : Ie.comes (.bin s x y) = if (Ie.comes x).2 ≠ 0 then (0, (Ie.comes x).2) else Ie.lnk s y (Ie.comes x).1 := rfl
theorem Ie.fold_take (x : E) (ys : List (ByteArray × E × Value)) (k : Nat) (s : ByteArray) (y : E) (u : Value) (h : ys[k]? = some (s, y, u)) : Ie.fold x (ys.take (k + 1)) = .bin s (Ie.fold x (ys.take k)) y := by
  obtain ⟨hk, e⟩ := List.getElem?_eq_some_iff.1 h
  rw [List.take_succ_eq_append_getElem hk, e, Ie.fold_snoc]
/-- What is wrong stays so. -/
theorem Ie.comes_stop (x : E) (ys : List (ByteArray × E × Value)) (k : Nat) (h : (Ie.comes (Ie.fold x (ys.take k))).2 ≠ 0) : ∀ m, k ≤ m → Ie.comes (Ie.fold x (ys.take m)) = Ie.comes (Ie.fold x (ys.take k)) := by
  intro m hm
  induction m with
  | zero => rw [Nat.le_zero.1 hm]
  | succ m ih =>
    rcases Nat.lt_or_ge m k with hlt | hge
    · rw [show m + 1 = k by omega]
    · cases hy : ys[m]? with
      | none =>
        rw [List.getElem?_eq_none_iff] at hy
        rw [List.take_of_length_le (by omega), ← ih hge, List.take_of_length_le hy]
      | some q =>
        obtain ⟨s, y, u⟩ := q
        rw [Ie.fold_take x ys m s y u hy, Ie.comes_bin, ih hge, if_pos h]
        exact Prod.ext (Ie.comes_zero _ h).symm rfl

set_option maxRecDepth 100000 in
set_option maxHeartbeats 2000000 in
theorem chain_any (x : E) (v : Value) (ys : List (ByteArray × E × Value)) (b cap : Nat) (w : World) (hx : ∀ W, Below w.heap.size w W → VM v x W) (hc1 : ys.length ≤ cap) (hc2 : cap ≤ maxLen)
    (hc : ∀ (i : Nat) s y u, ys[i]? = some (s, y, u) → Ie.lvS s ≠ 0 ∧ w.cell? ⟨b, i * 2, none⟩ = some (.string s) ∧ w.cell? ⟨b, i * 2 + 1, none⟩ = some u)
    (hy : ∀ (i : Nat) s y u, ys[i]? = some (s, y, u) → ∀ W, Below w.heap.size w W → VM u y W) :
    Calls Tryz.prog 144 #[.agg #[v, .slice (some ⟨b, 0, none⟩) ys.length cap]] w (ValPost (Ie.fold x ys) w) := by
  unfold maxLen at hc2
  obtain ⟨n, hn⟩ : ∃ n, n = ys.length := ⟨_, rfl⟩
  rw [← hn] at hc1 ⊢
  have hB1 : Below w.heap.size w (w.alloc (.cells #[v, .slice (some ⟨b, 0, none⟩) n cap] 124)) := Below.alloc (Below.refl _ _) (Nat.le_refl _) _
  have hbx : (w.alloc (.cells #[v, .slice (some ⟨b, 0, none⟩) n cap] 124)).heap[w.heap.size]? = some (.cells #[v, .slice (some ⟨b, 0, none⟩) n cap] 124 (0, 0)) := heap_alloc_new w _
  obtain ⟨t, p, f, rfl, hnn, hm, he, hcl⟩ := hx _ hB1
  have h0 : Ie.comes (Ie.fold x (ys.take 0)) = Ie.comes x := by rw [List.take_zero]; rfl
  obtain ⟨P, hP⟩ : ∃ P : Nat → Int × Int, P = fun k => Ie.comes (Ie.fold x (ys.take k)) := ⟨_, rfl⟩
  have HP := Lib.hid hP
  have HM := Lib.hid hcl
  have HB1 := Lib.hid hB1
  have HX := Lib.hid hbx
  have HC := Lib.hid hc
  have HY := Lib.hid hy
  have Hn := Lib.hid hn
  have H0 := Lib.hid (show (Ie.comes x) = P 0 by rw [hP]; exact h0.symm)
  clear hcl hB1 hbx hx hc hy hn h0 hP
  go_enter Tryz.func144, Tryz.ntmps144
  go_wp2_with fail
  refine HM.out.mono ?_
  rintro e w2 ⟨rfl, hB2⟩
  rw [H0.out]
  have hw2 := Below.then HB1.out hB2
  have hb2 := below_heap hB2 HX.out
  have HW2 := Lib.hid hw2
  have HX2 := Lib.hid hb2
  clear hB2 hw2 hb2 hnn hm he HM
  go_wp2_with fail
  go_loopw [4, 5, 6] (fun vn ve vi wr => ∃ k : Nat, vn = .int .i64 (P k).1 ∧ ve = .int .i64 (P k).2 ∧ vi = .int .i64 k ∧ k ≤ n ∧ Below w2.heap.size w2 wr) (fun _ _ vi _ => n - (intOf vi).toNat)
  case atStart => exact ⟨0, rfl, rfl, rfl, Nat.zero_le _, Below.refl _ _⟩
  case round =>
    obtain ⟨k, rfl, rfl, rfl, hk, hB⟩ := hrel
    obtain ⟨d0, d1⟩ := box2v (below_heap hB HX2.out)
    obtain ⟨ek, hek⟩ : ∃ ek, ek = (P k).2 := ⟨_, rfl⟩
    obtain ⟨nk, hnk⟩ : ∃ nk, nk = (P k).1 := ⟨_, rfl⟩
    rw [← hek, ← hnk]
    have HE := Lib.hid hek
    have HN := Lib.hid hnk
    have HB := Lib.hid hB
    clear hek hnk hB
    by_cases hlt : k < n
    · by_cases h0 : ek = 0
      · obtain ⟨⟨s, y, u⟩, hq⟩ : ∃ q, ys[k]? = some q := ⟨_, List.getElem?_eq_getElem (by rw [← Hn.out]; exact hlt)⟩
        obtain ⟨hs, c0, c1⟩ := HC.out k s y u hq
        have hBB := Below.then HW2.out HB.out
        replace c0 := below_cof hBB c0
        replace c1 := below_cof hBB c1
        have KL := Lib.hid (link_any s y u nk wr (fun W hW => HY.out k s y u hq W (Below.then hBB hW)) hs)
        have HQ := Lib.hid hq
        clear hq hBB hs
        have z1 : (0 : Int) ≤ k := by omega
        have z2 : (k : Int) < n := by omega
        go_wp2_with fail
        refine KL.out.mono ?_
        rintro e w3 ⟨rfl, hB3⟩
        go_wp2_with fail
        go_roundw
        case rel =>
          refine ⟨k + 1, ?_, ?_, by go_num, by omega, Below.then HB.out hB3⟩
          · have e1 : P (k + 1) = Ie.lnk s y nk := by
              rw [HP.out]
              show Ie.comes (Ie.fold x (ys.take (k + 1))) = _
              rw [Ie.fold_take x ys k s y u HQ.out, Ie.comes_bin, HN.out, HP.out]
              refine if_neg fun h => h ?_
              have := HE.out
              rw [HP.out, h0] at this
              exact this.symm
            rw [e1]
          · have e1 : P (k + 1) = Ie.lnk s y nk := by
              rw [HP.out]
              show Ie.comes (Ie.fold x (ys.take (k + 1))) = _
              rw [Ie.fold_take x ys k s y u HQ.out, Ie.comes_bin, HN.out, HP.out]
              refine if_neg fun h => h ?_
              have := HE.out
              rw [HP.out, h0] at this
              exact this.symm
            rw [e1]
        case measure => simp [intOf]; omega
      · go_wp2_with fail
        go_ret2
        refine ⟨?_, Below.then HW2.out HB.out⟩
        have e1 : Ie.comes (Ie.fold x ys) = P k := by
          have h1 := HE.out
          rw [HP.out] at h1 ⊢
          have h2 := Ie.comes_stop x ys k (by rw [← h1]; exact h0) n hk
          rw [Hn.out, List.take_length] at h2
          exact h2
        rw [e1, ← HE.out, ← HN.out]
        rfl
    · go_wp2_with fail
      go_ret2
      refine ⟨?_, Below.then HW2.out HB.out⟩
      have e1 : Ie.comes (Ie.fold x ys) = P k := by
        rw [HP.out]
        show _ = Ie.comes (Ie.fold x (ys.take k))
        rw [show k = ys.length by rw [← Hn.out]; omega, List.take_length]
      rw [e1, ← HE.out, ← HN.out]
      rfl

theorem val_any {w0 : World} {N : Nat} {T : E} {v : Value} (h : Ex w0 (· < N) T v) : ∀ W, N ≤ W.heap.size → (∀ b, b < N → W.heap[b]? = w0.heap[b]?) → VM v T W := by
  induction h with
  | num n => intro W _ _; exact ⟨_, _, _, rfl, fun _ => by kernel_rfl, fun _ => by kernel_rfl, fun _ => by kernel_rfl, vatom_any n W⟩
  | bad => intro W _ _; exact ⟨_, _, _, rfl, fun _ => by kernel_rfl, fun _ => by kernel_rfl, fun _ => by kernel_rfl, vatom_any 0 W⟩
  | un s x v _ ih =>
    intro W hN hk
    exact ⟨_, _, _, rfl, fun _ => by kernel_rfl, fun _ => by kernel_rfl, fun _ => by kernel_rfl, ahead_any s x v W fun W' hW => ih W' (Nat.le_trans hN hW.size) fun b hb => (hW.block b (by omega)).trans (hk b hb)⟩
  | ask x y z a b c _ _ _ i1 i2 i3 =>
    intro W hN hk
    have key : ∀ W', Below W.heap.size W W' → N ≤ W'.heap.size ∧ ∀ b, b < N → W'.heap[b]? = w0.heap[b]? := fun W' hW => ⟨Nat.le_trans hN hW.size, fun b hb => (hW.block b (by omega)).trans (hk b hb)⟩
    exact ⟨_, _, _, rfl, fun _ => by kernel_rfl, fun _ => by kernel_rfl, fun _ => by kernel_rfl, choice_any x y z a b c W (fun W' hW => i1 W' (key W' hW).1 (key W' hW).2) (fun W' hW => i2 W' (key W' hW).1 (key W' hW).2) (fun W' hW => i3 W' (key W' hW).1 (key W' hW).2)⟩
  | chain x v ys b cap _ hb h1 h2 h3 _ ix iy =>
    intro W hN hk
    have key : ∀ W', Below W.heap.size W W' → N ≤ W'.heap.size ∧ ∀ b, b < N → W'.heap[b]? = w0.heap[b]? := fun W' hW => ⟨Nat.le_trans hN hW.size, fun b hb => (hW.block b (by omega)).trans (hk b hb)⟩
    refine ⟨_, _, _, rfl, fun _ => by kernel_rfl, fun _ => by kernel_rfl, fun _ => by kernel_rfl, chain_any x v ys b cap W (fun W' hW => ix W' (key W' hW).1 (key W' hW).2) h1 h2 (fun i s y u hi => ?_) (fun i s y u hi W' hW => iy i s y u hi W' (key W' hW).1 (key W' hW).2)⟩
    obtain ⟨k0, k1, k2⟩ := h3 i s y u hi
    exact ⟨k0, (World.cell?_of_block (a := ⟨b, i * 2, none⟩) (hk b hb)).trans k1, (World.cell?_of_block (a := ⟨b, i * 2 + 1, none⟩) (hk b hb)).trans k2⟩
end Go.Proofs.YtognifnalfjdgaaGreatDoor

/- What is proved: an expression, however deep, is read as the document says; what a list of tokens comes to. -/
namespace Go.Proofs.YtognifnalfjdgaaGreatDoor
open Go.RowKit Go.Shelf
open Ie (E Rd)

theorem Ie.levels_none : ∀ k l, Ie.levels (fun _ => none) k l = none
  | 0, _ => rfl
  | k + 1, l => by
    show Ie.level _ _ l = none
    unfold Ie.level
    rw [Ie.levels_none k l]

set_option maxRecDepth 100000 in
set_option maxHeartbeats 4000000 in
theorem expression_deep (depth : Nat) (_ : depth ≤ 1000) (HJ : Reads 70 [.int .i64 1, .int .i64 depth] (fun _ => none)) : Reads 45 [.int .i64 depth] (fun _ => none) := by
  intro R B l b e w hG hR hBw hRS hb hT
  have K1 := Lib.hid (HJ R B l b e w hG hR hBw hRS hb hT)
  clear hG hRS hb hT HJ
  go_enter Tryz.func45, Tryz.ntmps45
  go_wp2_with fail
  refine K1.out.mono ?_
  rintro en w2 ⟨v, l2, b2, e2, rfl, hF2, hRS2, hIf2, hsp2⟩
  rcases hsp2 with ⟨T, hT, -⟩ | ⟨-, rfl, rfl⟩
  · cases hT
  · have K2 := Lib.hid (takes_any R B Ie.sAsk [] true e2 w2 hRS2)
    have HF2 := Lib.hid hF2
    have HIF := Lib.hid hIf2
    have hq : Ie.bg Ie.sAsk [] = false := rfl
    rw [hq] at K2
    clear hF2 hRS2 hIf2 hq
    go_wp2_with fail
    refine K2.out.mono ?_
    rintro en w3 ⟨rfl, hF3, hRS3⟩
    have H3 := Lib.hid (And.intro hF3 hRS3)
    clear hF3 hRS3
    go_wp2_with fail
    go_ret
    exact ⟨_, _, _, _, rfl, HF2.out.trans H3.out.1, H3.out.2, HIF.out, .inr ⟨rfl, rfl, rfl⟩⟩

set_option maxRecDepth 100000 in
set_option maxHeartbeats 8000000 in
theorem expression_any (depth : Nat) (h2 : depth ≤ 1000) (o e : Rd) (hDJ : Ie.Dec (Ie.levels o 10)) (hDE : Ie.Dec e) (HJ : Reads 70 [.int .i64 1, .int .i64 depth] (Ie.levels o 10)) (HE : Reads 45 [.int .i64 ((depth : Int) + 1)] e) :
    Reads 45 [.int .i64 depth] (Ie.exprS o e) := by
  intro R B l b er w hG hR hBw hRS hb hT
  have hRw : R < w.heap.size := by obtain ⟨_, h1, _⟩ := hRS; exact rdr_lt h1
  have K1 := Lib.hid (HJ R B l b er w hG hR hBw hRS hb hT)
  have d1 : (depth : Int) ≤ 1000 := by omega
  have d2 : (0 : Int) ≤ depth := by omega
  have HG := Lib.hid hG
  have HT := Lib.hid hT
  have HHB := Lib.hid hb
  have HHE := Lib.hid HE
  have HHDJ := Lib.hid hDJ
  have HHDE := Lib.hid hDE
  obtain ⟨S, hS⟩ : ∃ S, S = Ie.exprS o e l := ⟨_, rfl⟩
  rw [← hS]
  have HS := Lib.hid hS
  clear hG hRS hb hT HJ HE hDJ hDE hS
  go_enter Tryz.func45, Tryz.ntmps45
  go_wp2_with fail
  refine K1.out.mono ?_
  rintro en w2 ⟨v, l2, b2, e2, rfl, hF2, hRS2, hIf2, hsp2⟩
  have K2 := Lib.hid (takes_any R B Ie.sAsk l2 b2 e2 w2 hRS2)
  have HF2 := Lib.hid hF2
  have HSP2 := Lib.hid hsp2
  obtain ⟨vt, vp, rfl⟩ := hIf2
  obtain ⟨q, hq⟩ : ∃ q, q = Ie.bg Ie.sAsk l2 := ⟨_, rfl⟩
  rw [← hq] at K2
  have HQ := Lib.hid hq
  clear hF2 hRS2 hsp2 hq
  go_wp2_with fail
  refine K2.out.mono ?_
  rintro en w3 ⟨rfl, hF3, hRS3⟩
  have HF3 := Lib.hid (HF2.out.trans hF3)
  have HF23 := Lib.hid hF3
  have HRS3 := Lib.hid hRS3
  clear hF3 hRS3
  cases q with
  | false =>
    go_wp2_with fail
    go_ret
    refine ⟨_, _, _, _, rfl, HF3.out, HRS3.out, ⟨_, _, rfl⟩, ?_⟩
    rcases HSP2.out with ⟨T, hT, rfl, rfl, hE⟩ | ⟨hN, rfl, rfl⟩
    · refine .inl ⟨T, ?_, rfl, rfl, hE.keep fun g hg => ⟨⟨hg.1, Nat.lt_of_lt_of_le hg.2 HF23.out.size⟩, HF23.out.block g hg.2 (by omega)⟩⟩
      rw [HS.out]
      unfold Ie.exprS
      rw [hT]
      cases l2 with
      | nil => rfl
      | cons u r => exact if_neg (by rw [show Ie.isS u Ie.sAsk = false from HQ.out.symm]; decide)
    · refine .inr ⟨?_, rfl, rfl⟩
      rw [HS.out]
      unfold Ie.exprS
      rw [hN]
  | true =>
    obtain ⟨T, hT, rfl, rfl, hE⟩ : ∃ T, Ie.levels o 10 l = some (T, l2) ∧ b2 = b ∧ e2 = (if T.isBad then 91 else er) ∧ Ex w2 (fun g => w.heap.size ≤ g ∧ g < w2.heap.size) T (.iface vt vp) := by
      rcases HSP2.out with h | ⟨_, rfl, _⟩
      · exact h
      · have := HQ.out; cases this
    obtain ⟨u, r, rfl⟩ : ∃ u r, l2 = u :: r := by
      cases l2 with
      | nil => have := HQ.out; cases this
      | cons u r => exact ⟨u, r, rfl⟩
    have hqq : Ie.isS u Ie.sAsk = true := HQ.out.symm
    obtain ⟨k, hk0, hk1, hk2⟩ := HHDJ.out l T _ hT
    have hTr : Tb r := by
      have h := HT.out.drop (k + 1)
      rw [← List.drop_drop, ← hk2] at h
      exact h
    have hbb : b2 = true → r = [] := fun hbt => by
      have := HHB.out hbt
      subst this
      simp at hk1
      omega
    have hsp : S = match Ie.shut Ie.sCol (e r) with | none => none | some (y, r2) => match e r2 with | none => none | some (z, r3) => some (.ask T y z, r3) := by
      rw [HS.out]
      unfold Ie.exprS
      rw [hT]
      exact if_pos hqq
    have HSP := Lib.hid hsp
    have hRS3' : RS w3 R B r b2 (if T.isBad then 91 else er) := HRS3.out
    have h3s := HF3.out.size
    have K3 := Lib.hid (HHE.out R B r b2 (if T.isBad then 91 else er) w3 (HG.out.fb hR HF3.out HG.out.pos) hR (by omega) hRS3' hbb hTr)
    have HEX := Lib.hid (show Ex w3 (fun g => w.heap.size ≤ g ∧ g < w3.heap.size) T (.iface vt vp) from hE.keep fun g hg => ⟨⟨hg.1, Nat.lt_of_lt_of_le hg.2 HF23.out.size⟩, HF23.out.block g hg.2 (by omega)⟩)
    have HTr := Lib.hid hTr
    have HBB := Lib.hid hbb
    clear hT hE hqq hk0 hk1 hk2 hTr hbb hsp hRS3' h3s
    go_wp2_with fail
    refine K3.out.mono ?_
    rintro en w4 ⟨v4, l4, b4, e4, rfl, hF4, hRS4, hIf4, hsp4⟩
    obtain ⟨yt, yp, rfl⟩ := hIf4
    have K4 := Lib.hid (must_any R B Ie.sCol l4 b4 e4 w4 hRS4)
    have HF4 := Lib.hid hF4
    have HSP4 := Lib.hid hsp4
    clear hF4 hRS4 hsp4
    go_wp2_with fail
    refine K4.out.mono ?_
    rintro en w5 ⟨rfl, hF5, hRS5⟩
    have hw5 := (HF3.out.trans HF4.out).trans hF5
    -- behind the colon: read so far, or broken
    have hst : ∃ l5 b5 e5, RS w5 R B l5 b5 e5 ∧ ((∃ Y, Ie.shut Ie.sCol (e r) = some (Y, l5) ∧ b5 = b2 ∧ e5 = (if Y.isBad then 91 else if T.isBad then 91 else er) ∧ Ex w5 (fun g => w.heap.size ≤ g ∧ g < w5.heap.size) Y (.iface yt yp) ∧ Tb l5 ∧ (b5 = true → l5 = [])) ∨ (Ie.shut Ie.sCol (e r) = none ∧ l5 = [] ∧ b5 = true)) := by
      rcases HSP4.out with ⟨Y, hY, rfl, rfl, hEY⟩ | ⟨hN, rfl, rfl⟩
      · cases hq : Ie.bg Ie.sCol l4 with
        | true =>
          rw [hq] at hRS5
          obtain ⟨m, hm0, hm1, hm2⟩ := HHDE.out r Y l4 hY
          have h3s := HF3.out.size
          refine ⟨_, _, _, hRS5, .inl ⟨Y, by rw [hY]; exact Ie.shut_yes hq, rfl, rfl, hEY.keep fun g hg => ⟨⟨by have := hg.1; omega, Nat.lt_of_lt_of_le hg.2 hF5.size⟩, hF5.block g hg.2 (by have := hg.1; omega)⟩, ?_, fun hbt => ?_⟩⟩
          · show Tb l4.tail
            rw [hm2, List.tail_drop]
            exact HTr.out.drop _
          · have := HBB.out hbt
            subst this
            simp at hm1
            omega
        | false =>
          rw [hq] at hRS5
          exact ⟨_, _, _, hRS5, .inr ⟨by rw [hY]; exact Ie.shut_no hq, rfl, rfl⟩⟩
      · exact ⟨_, _, _, hRS5, .inr ⟨by rw [hN]; rfl, rfl, rfl⟩⟩
    obtain ⟨l5, b5, e5, hRS5', hst⟩ := hst
    have HST := Lib.hid hst
    have hT5 : Tb l5 := by
      rcases hst with ⟨_, _, _, _, _, h, _⟩ | ⟨_, rfl, _⟩
      · exact h
      · exact ⟨by simp, fun t ht => by simp at ht⟩
    have hb5 : b5 = true → l5 = [] := by
      rcases hst with ⟨_, _, _, _, _, _, h⟩ | ⟨_, rfl, _⟩
      · exact h
      · exact fun _ => rfl
    have h5s := hw5.size
    have K5 := Lib.hid (HHE.out R B l5 b5 e5 w5 (HG.out.fb hR hw5 HG.out.pos) hR (by omega) hRS5' hb5 hT5)
    have HF5 := Lib.hid hF5
    have HW5 := Lib.hid hw5
    clear hF5 hRS5 hRS5' hst hT5 hb5 h5s hw5
    go_wp2_with fail
    refine K5.out.mono ?_
    rintro en w6 ⟨v6, l6, b6, e6, rfl, hF6, hRS6, hIf6, hsp6⟩
    obtain ⟨zt, zp, rfl⟩ := hIf6
    have HF6 := Lib.hid hF6
    have HRS6 := Lib.hid hRS6
    have HSP6 := Lib.hid hsp6
    clear hF6 hRS6 hsp6
    go_wp2_with fail
    go_ret
    refine ⟨_, l6, b6, e6, rfl, HW5.out.trans HF6.out, HRS6.out, ⟨_, _, rfl⟩, ?_⟩
    rcases HST.out with ⟨Y, hY, rfl, rfl, hEY, _, _⟩ | ⟨hN, rfl, rfl⟩
    · rcases HSP6.out with ⟨Z, hZ, rfl, rfl, hEZ⟩ | ⟨hN, rfl, rfl⟩
      · refine .inl ⟨.ask T Y Z, by rw [HSP.out, hY]; dsimp only; rw [hZ], rfl, ?_, .ask T Y Z _ _ _ ?_ ?_ ?_⟩
        · show _ = if (T.isBad || (Y.isBad || Z.isBad)) = true then _ else _
          cases T.isBad <;> cases Y.isBad <;> cases Z.isBad <;> rfl
        · refine HEX.out.keep fun g hg => ?_
          have h4 := HF4.out.size
          have h5 := HF5.out.size
          have h6 := HF6.out.size
          exact ⟨⟨hg.1, by omega⟩, (HF6.out.block g (by omega) (by omega)).trans ((HF5.out.block g (by omega) (by omega)).trans (HF4.out.block g hg.2 (by omega)))⟩
        · exact hEY.keep fun g hg => ⟨⟨hg.1, Nat.lt_of_lt_of_le hg.2 HF6.out.size⟩, HF6.out.block g hg.2 (by omega)⟩
        · exact hEZ.keep fun g hg => ⟨⟨by have := hg.1; have := HW5.out.size; omega, hg.2⟩, rfl⟩
      · exact .inr ⟨by rw [HSP.out, hY]; dsimp only; rw [hN], rfl, rfl⟩
    · rcases HSP6.out with ⟨Z, hZ, -⟩ | ⟨_, rfl, rfl⟩
      · rw [HHDE.out.nil] at hZ; cases hZ
      · exact .inr ⟨by rw [HSP.out, hN], rfl, rfl⟩

theorem joined_all (o : Rd) (depth : Nat) (hdep : depth ≤ 1000) (hD : Ie.Dec o) (HO : Reads 70 [.int .i64 11, .int .i64 depth] o) : ∀ k, k ≤ 10 → Reads 70 [.int .i64 ((11 - k : Nat) : Int), .int .i64 depth] (Ie.levels o k)
  | 0, _ => HO
  | k + 1, hk => by
    have ih := joined_all o depth hdep hD HO k (by omega)
    have h := joined_step (10 - k) depth (Ie.levels o k) (by omega) (by omega) hdep (Ie.levels_dec hD k) (by rw [show (((10 - k : Nat) : Int) + 1) = ((11 - k : Nat) : Int) by omega]; exact ih)
    rw [show 11 - (k + 1) = 10 - k by omega]
    exact h
/-- Operands and expressions at each depth. -/
theorem reads_all (HN : NumC 13 Ie.number) (HQ : NumC 15 Ie.quote) : ∀ d, d ≤ 61 → Reads 89 [.int .i64 ((61 - d : Nat) : Int)] (Ie.oper d) ∧ Reads 45 [.int .i64 ((61 - d : Nat) : Int)] (Ie.expr d)
  | 0, _ => by
    have ho := operand_deep 61 (by decide) (by decide)
    refine ⟨ho, ?_⟩
    have hj := joined_all (fun _ => none) 61 (by decide) (fun _ _ _ h => by cases h) (by
      intro R B l b e w hG hR hBw hRS hb hT
      exact joined_base 0 61 ho R B l b e w hG hR hBw hRS hb hT) 10 (Nat.le_refl _)
    refine expression_deep 61 (by decide) ?_
    rw [show Ie.levels (fun _ => none) 10 = fun _ => none from funext fun l => Ie.levels_none 10 l] at hj
    exact hj
  | d + 1, hd => by
    obtain ⟨io, ie⟩ := reads_all HN HQ d (by omega)
    have hdd := Ie.both_dec d
    have hd1 := Ie.both_dec (d + 1)
    have e1 : (((61 - (d + 1) : Nat) : Int) + 1) = ((61 - d : Nat) : Int) := by omega
    have ho : Reads 89 [.int .i64 ((61 - (d + 1) : Nat) : Int)] (Ie.oper (d + 1)) :=
      operand_any (61 - (d + 1)) (by omega) (Ie.oper d) (Ie.expr d) HN HQ fun s => by rw [e1]; exact behind_any s _ (Ie.oper d) (Ie.expr d) io ie
    refine ⟨ho, ?_⟩
    have hj := joined_all (Ie.oper (d + 1)) (61 - (d + 1)) (by omega) hd1.1 (joined_base (d + 1) (61 - (d + 1)) ho) 10 (Nat.le_refl _)
    exact expression_any (61 - (d + 1)) (by omega) (Ie.oper (d + 1)) (Ie.expr d) (Ie.levels_dec hd1.1 10) hdd.2 hj (by rw [e1]; exact ie)
end Go.Proofs.YtognifnalfjdgaaGreatDoor

/- What is proved: append(x, l...) of tokens, whatever l is. -/
namespace Go.Proofs.YtognifnalfjdgaaGreatDoor
open Go.RowKit Go.Shelf

theorem run_append_empty {P : Program} {w : World} (base : Nat) (t ty e : TypeId) (i : TypeInfo) (size : Nat) (ht : P.underlying t = some (.slice e)) (hi : P.info? e = some i)
    (v : Value) (n : Nat) (xs : List Value) (hown : w.ownsRow base e size v n xs) (ad : Option Addr) (c : Nat) :
    (Builtin.append_ #[t, t] ty #[v, .slice ad 0 c]).run P w = .ok v w := by
  cases ad with
  | none =>
    rcases hown.2 with ⟨rfl, rfl⟩ | ⟨g, cap, cur, rfl, _, _, hnc, _⟩
    · simp [Builtin.append_, run_underlying ht, sizeOf, typeInfo, hi, Builtin.lenOf, Builtin.firstCells]
    · simp [Builtin.append_, run_underlying ht, sizeOf, typeInfo, hi, Builtin.lenOf, Builtin.firstCells, hnc, storeCells]
  | some a =>
    rcases hown.2 with ⟨rfl, rfl⟩ | ⟨g, cap, cur, rfl, _, _, hnc, _⟩
    · simp [Builtin.append_, run_underlying ht, sizeOf, typeInfo, hi, Builtin.lenOf, Builtin.firstCells, loadCells, loadCellsFrom]
    · simp [Builtin.append_, run_underlying ht, sizeOf, typeInfo, hi, Builtin.lenOf, Builtin.firstCells, hnc, storeCells, loadCells, loadCellsFrom]

/-- The cells of tokens, one behind the other. -/
theorem ks_news {w : World} {g o' n c : Nat} {l2 : List K} (hu : Ks w (.slice (some ⟨g, o', none⟩) n c) l2) : ∀ j q, (ksCells l2)[j]? = some q → w.cell? ((⟨g, o', none⟩ : Addr).add j) = some q := by
  obtain ⟨ad', c', e, -, -, h3⟩ := hu
  injection e with e1 e2 e3
  subst e1
  intro j q hj
  have hlt := (List.getElem?_eq_some_iff.1 hj).1
  rw [ksCells_length] at hlt
  have hd : j / 6 < l2.length := by omega
  obtain ⟨t, ht⟩ : ∃ t, l2[j / 6]? = some t := ⟨_, List.getElem?_eq_getElem hd⟩
  obtain ⟨g', o'', e, k0, k1, k2, k3, k4, k5⟩ := h3 _ t ht
  injection e with e
  injection e with e1 e2
  subst e1 e2
  have hadd : (⟨g, o', none⟩ : Addr).add j = ⟨g, o' + j, none⟩ := by unfold Addr.add; split <;> simp_all
  rw [hadd]
  have key : ∀ m v, (kCells t)[m]? = some v → j = j / 6 * 6 + m → w.cell? ⟨g, o' + j / 6 * 6 + m, none⟩ = some v → w.cell? ⟨g, o' + j, none⟩ = some q := fun m v hm he hc => by
    have h4 := ksCells_get l2 (j / 6) t ht m v hm
    rw [← he, hj] at h4
    injection h4 with h4
    rw [h4, ← hc]
    congr 2
    omega
  have hm : j % 6 = 0 ∨ j % 6 = 1 ∨ j % 6 = 2 ∨ j % 6 = 3 ∨ j % 6 = 4 ∨ j % 6 = 5 := by omega
  rcases hm with hm | hm | hm | hm | hm | hm
  · exact key 0 _ rfl (by omega) k0
  · exact key 1 _ rfl (by omega) k1
  · exact key 2 _ rfl (by omega) k2
  · exact key 3 _ rfl (by omega) k3
  · exact key 4 _ rfl (by omega) k4
  · exact key 5 _ rfl (by omega) k5
set_option maxRecDepth 100000 in
theorem wpList_append_ks {w : World} {ops : Array Oper} {rest : List Oper} {o : Oper} {a : Act} {Q : Exit → Act → World → Prop} (hgd : o.guard = none) (s x : Operand)
    (ho : o.op = .call { callee := .builtin .append, args := #[s, x], argTypes := #[26, 26] }) (base : Nat) (v : Value) (n : Nat) (l : List K) (hs : a.eval s = v) (hown : w.ownsRow base 54 6 v n (ksCells l))
    (u : Value) (l2 : List K) (hx : a.eval x = u) (hu : Ks w u l2) (hn : n + l2.length ≤ 1000000) (hbase : base ≤ w.heap.size)
    (h : ∀ v' w', w'.ownsRow base 54 6 v' (n + l2.length) (ksCells (l ++ l2)) → w.grownBy w' v.ownBlock → wpList Tryz.prog ops Q rest (a.put o.dst v') w') : wpList Tryz.prog ops Q (o :: rest) a w := by
  obtain ⟨i0, hi, hz0, hz1, hz2⟩ := info_parts infoTok
  obtain ⟨ad, c, rfl, h1, h2, h3⟩ := hu
  rcases Nat.eq_zero_or_pos l2.length with h0 | hpos
  · obtain rfl : l2 = [] := List.length_eq_zero_iff.1 h0
    refine wpList_plain hgd fun K hK => ?_
    have hrun := run_append_empty (P := Tryz.prog) (w := w) base 26 o.type 54 i0 6 Tryz.underlying26 hi v n (ksCells l) hown ad c
    unfold Oper.wp
    simp [execOp, ho, resolve, invoke, builtin, hs, hx, hrun, Result.andThen]
    exact hK _ _ (h v w (by rw [List.append_nil]; exact hown) ⟨rfl, rfl, rfl, Nat.le_refl _, fun _ _ _ => rfl⟩)
  · obtain ⟨g, o', rfl, c0⟩ := h3 0 _ (List.getElem?_eq_getElem hpos)
    refine wpList_append_lies w hgd s x 26 ho base 54 i0 _ 6 56 Tryz.underlying26 hi hz0 hz1 hz2 rfl (by decide) v n (ksCells l) hs hown ⟨g, o', none⟩ l2.length c (ksCells l2) hx (ksCells_length l2) ?_ (ksCells_one l2) hpos (by unfold maxLen; omega) (by omega) hbase w.heap.size rfl ?_
    · exact ks_news ⟨_, c, rfl, h1, h2, h3⟩
    · intro g2 cap w' hr hg _ _
      rw [← ksCells_append] at hr
      exact h _ _ hr hg
theorem row_emptyK (w : World) : (w.alloc (.cells #[] 54)).ownsRow w.heap.size 54 6 (.slice (some ⟨w.heap.size, 0, none⟩) 0 0) 0 (ksCells []) := World.ownsRow_made w #[] 0 (Nat.le_refl _) (Nat.zero_le _) rfl
end Go.Proofs.YtognifnalfjdgaaGreatDoor

/- What is proved: what the program's Eval tells of any tokens. -/
namespace Go.Proofs.YtognifnalfjdgaaGreatDoor
open Go.RowKit Go.Shelf
open Ie (E Rd)

theorem heap_alloc2 (w : World) (o o' : Obj) : ((w.alloc o).alloc o').heap[w.heap.size + 1]? = some o' := by
  have h := heap_alloc_new (w.alloc o) o'
  rw [World.size_alloc] at h
  exact h
theorem Ie.inLine_take (l : List K) (k : Nat) (t : K) (h : l[k]? = some t) : Ie.inLine (l.take (k + 1)) = Ie.inLine (l.take k) ++ if t.kind = 7 then [] else [t] := by
  obtain ⟨hk, e⟩ := List.getElem?_eq_some_iff.1 h
  unfold Ie.inLine
  rw [List.take_succ_eq_append_getElem hk, List.filter_append, e]
  by_cases h7 : t.kind = 7 <;> simp [h7]
theorem Ie.inLine_len (l : List K) : (Ie.inLine l).length ≤ l.length := List.length_filter_le _ _
def LinePost (w : World) (l : List K) (e : Ending) (w' : World) : Prop := ∃ u, e = .returned u ∧ w'.ownsRow w.heap.size 54 6 u (Ie.inLine l).length (ksCells (Ie.inLine l)) ∧ Below w.heap.size w w'
set_option maxRecDepth 100000 in
set_option maxHeartbeats 4000000 in
theorem inLine_any (v : Value) (l : List K) (w : World) (hv : Ks w v l) (hl : l.length ≤ 1000000) : Calls Tryz.prog 44 #[v] w (LinePost w l) := by
  obtain ⟨i0, hi, hz0, hz1, hz2⟩ := info_parts infoTok
  obtain ⟨ad, cap, rfl, h1, h2, -⟩ := id hv
  obtain ⟨n, hn⟩ : ∃ n, n = l.length := ⟨_, rfl⟩
  rw [← hn] at hv h1 hl
  have HV := Lib.hid hv
  have Hn := Lib.hid hn
  rw [← hn]
  clear hv hn h1 h2
  go_enter Tryz.func44, Tryz.ntmps44
  go_wp2_with fail
  go_loopw [3, 8] (fun o a wr => ∃ (k : Nat), a = .int .i64 k ∧ k ≤ n ∧ wr.ownsRow w.heap.size 54 6 o (Ie.inLine (l.take k)).length (ksCells (Ie.inLine (l.take k))) ∧ Below w.heap.size w wr) (fun _ a _ => n - (intOf a).toNat)
  case atStart => exact ⟨0, rfl, Nat.zero_le _, ⟨by simp [Ie.inLine, ksCells], .inl ⟨rfl, by simp [Ie.inLine]⟩⟩, Below.refl _ _⟩
  case round =>
    obtain ⟨k, rfl, hk, hrow, hB⟩ := hrel
    by_cases hlt : k < n
    · obtain ⟨t, ht⟩ : ∃ t, l[k]? = some t := ⟨_, List.getElem?_eq_getElem (by rw [← Hn.out]; exact hlt)⟩
      obtain ⟨g, o, rfl, -, -, -, hg, hc⟩ := (HV.out.below hB).cells (by rw [← Hn.out]; omega)
      obtain ⟨d0, d1, d2, d3, d4, d5⟩ := hc k t ht
      have HT := Lib.hid (Ie.inLine_take l k t ht)
      have hml : (Ie.inLine (l.take k)).length ≤ k := Nat.le_trans (Ie.inLine_len _) (by rw [List.length_take]; omega)
      have HB := Lib.hid hB
      have hbs := hB.size
      obtain ⟨kd, tx, f, fr, en, bl⟩ := t
      dsimp only at d0 d1 d2 d3 d4 d5
      obtain ⟨m, hm⟩ : ∃ m, m = (Ie.inLine (l.take k)).length := ⟨_, rfl⟩
      obtain ⟨cs, hcs⟩ : ∃ cs, cs = ksCells (Ie.inLine (l.take k)) := ⟨_, rfl⟩
      rw [← hm] at hml
      rw [← hcs, ← hm] at hrow
      have HM := Lib.hid hm
      have HCS := Lib.hid hcs
      have HROW := Lib.hid hrow
      clear ht hB hcs hm hc hrow
      have z1 : (0 : Int) ≤ k := by omega
      have z2 : (k : Int) < n := by omega
      by_cases h7 : kd = 7
      · have HT7 := Lib.hid (HT.out.trans (by rw [if_pos h7, List.append_nil]))
        clear HT
        go_wp2_with fail
        go_roundw
        case rel =>
          refine ⟨k + 1, by go_num, by omega, ?_, HB.out.alloc hbs _⟩
          rw [HT7.out, ← HM.out, ← HCS.out]
          exact HROW.out.alloc _
        case measure => simp [intOf]; omega
      · have HT7 := Lib.hid (HT.out.trans (by rw [if_neg h7]))
        clear HT
        go_wp2_with (at_builtin; refine wpList_append_lies _ rfl _ _ 26 rfl w.heap.size 54 i0 _ 6 56 Tryz.underlying26 hi hz0 hz1 hz2 rfl (by decide) _ m cs rfl ((HROW.out.alloc _).alloc _) ⟨wr.heap.size + 1, 0, none⟩ 1 1 (kCells ⟨kd, tx, f, fr, en, bl⟩) rfl rfl (World.news_of_block (cs := #[.int .i64 kd, .string tx, .int .i64 f, .int .i64 fr, .int .i64 en, .bool bl]) (t := 54) (fr := (0, 0)) (heap_alloc2 wr _ _)) (by simp [Value.oneCell', kCells]) (by decide) (by unfold maxLen; omega) (by omega) (by simp; omega) _ rfl ?_; intro gg cap' w2 hown hgrow hat hlt2)
        go_roundw
        case rel =>
          refine ⟨k + 1, by go_num, by omega, ?_, ?_⟩
          · rw [HT7.out, List.length_append, ksCells_append, ← HM.out, ← HCS.out]; exact hown
          · exact ((HB.out.alloc hbs _).alloc (by simp; omega) _).grown hgrow (by simp; omega) (fun i e => (HROW.out.lt i e).1)
        case measure => simp [intOf]; omega
    · obtain rfl : k = n := by omega
      rw [List.take_of_length_le (by rw [← Hn.out]; exact Nat.le_refl _)] at hrow
      have HROW := Lib.hid hrow
      have HB := Lib.hid hB
      clear hrow hB
      go_wp2_with fail
      go_ret
      exact ⟨_, rfl, HROW.out, HB.out⟩

theorem Ks.lv {w W : World} {u : Value} {l : List K} (h : Ks w u l) (hB : Below w.heap.size w W) {R : Nat} (hR : w.heap.size ≤ R) : Lv W R w.heap.size u l := by
  obtain ⟨ad, cap, rfl, h1, h2, h3⟩ := h
  refine ⟨ad, cap, rfl, h1, h2, fun i t ht => ?_⟩
  obtain ⟨g, o, e, c⟩ := h3 i t ht
  have hlt := lt_of_cell c.1
  exact ⟨g, o, e, ⟨by show g ≠ R; have : g < w.heap.size := hlt; omega, hlt⟩, c.below hB hlt⟩
/-- What reading tokens tells. -/
def ReadPost (w : World) (l : List K) (e : Ending) (w' : World) : Prop :=
  ∃ v er, e = .returned (.tuple #[v, .int .i64 er]) ∧ Below w.heap.size w w' ∧
    ((∃ T, Ie.eval l = Ie.comes T ∧ er = 0 ∧ Ex w' (fun g => g < w'.heap.size) T v) ∨ (Ie.eval l = (0, er) ∧ er ≠ 0))
theorem Ie.inLine_tb {l : List K} (h : Tb l) : Tb (Ie.inLine l) := ⟨Nat.le_trans (Ie.inLine_len l) h.1, fun t ht => h.2 t (List.mem_filter.1 ht).1⟩

set_option maxRecDepth 100000 in
set_option maxHeartbeats 4000000 in
theorem iread_any (HN : NumC 13 Ie.number) (HQ : NumC 15 Ie.quote) (v : Value) (l : List K) (w : World) (hG : Gv w) (hv : Ks w v l) (hT : Tb l) : Calls Tryz.prog 23 #[v] w (ReadPost w l) := by
  have K1 := Lib.hid (inLine_any v l w hv hT.1)
  have hr0 : Reads 45 [.int .i64 0] (Ie.expr 61) := (reads_all HN HQ 61 (Nat.le_refl _)).2
  have HR := Lib.hid hr0
  have HG := Lib.hid hG
  have HT := Lib.hid (Ie.inLine_tb hT)
  obtain ⟨m, hm⟩ : ∃ m, m = Ie.inLine l := ⟨_, rfl⟩
  have hev : Ie.eval l = match Ie.expr 61 m with | some (x, []) => if x.isBad then (0, 91) else Ie.comes x | _ => (0, 90) := by rw [hm]; rfl
  unfold LinePost at K1
  rw [← hm] at K1 HT
  have HEV := Lib.hid hev
  clear hG hv hT HN HQ hm hev hr0
  go_enter Tryz.func23, Tryz.ntmps23
  go_wp2_with fail
  refine K1.out.mono ?_
  rintro en w2 ⟨u, rfl, hrow, hB2⟩
  have hks := Ks.of_row hrow
  obtain ⟨uad, ucap, rfl, -⟩ := id hks
  obtain ⟨um, hum⟩ : ∃ um, um = m.length := ⟨_, rfl⟩
  rw [← hum] at hks
  rw [← hum]
  have hB3 : Below w2.heap.size w2 (w2.alloc (.cells #[.slice uad um ucap, .bool false, .int .i64 0] 82)) := Below.alloc (Below.refl _ _) (Nat.le_refl _) _
  have hbx : (w2.alloc (.cells #[.slice uad um ucap, .bool false, .int .i64 0] 82)).heap[w2.heap.size]? = some (.cells #[.slice uad um ucap, .bool false, .int .i64 0] 82 (0, 0)) := heap_alloc_new w2 _
  have hRS : RS (w2.alloc (.cells #[.slice uad um ucap, .bool false, .int .i64 0] 82)) w2.heap.size w2.heap.size m false 0 := ⟨_, hbx, hks.lv hB3 (Nat.le_refl _)⟩
  have hw3 := Below.then hB2 hB3
  have hs2 := hB2.size
  have hp := HG.out.pos
  have K2 := Lib.hid (HR.out w2.heap.size w2.heap.size m false 0 _ (HG.out.later hw3) (by omega) (by simp) hRS (fun h => by cases h) HT.out)
  have HW3 := Lib.hid hw3
  have HB2 := Lib.hid hB2
  clear hrow hB2 hks hum hB3 hbx hRS hw3 HR
  go_wp2_with fail
  refine K2.out.mono ?_
  rintro en w4 ⟨v4, l4, b4, e4, rfl, hF4, ⟨lv4, hbx4, hLv4⟩, hIf4, hsp4⟩
  obtain ⟨c0, c1, c2⟩ := box3v hbx4
  obtain ⟨ad4, cap4, rfl, -, -, -⟩ := hLv4
  have hwB : Below w.heap.size w w4 := by
    have h1 : Below w.heap.size (w2.alloc (.cells #[.slice uad um ucap, .bool false, .int .i64 0] 82)) w4 := hF4.below hs2 (by simp; omega)
    exact HW3.out.trans h1
  have HWB := Lib.hid hwB
  have HF4 := Lib.hid hF4
  have HSP4 := Lib.hid hsp4
  clear hwB hF4 hsp4 hbx4 HW3 K2
  rcases HSP4.out with ⟨T, hT, rfl, rfl, hE⟩ | ⟨hN, rfl, rfl⟩
  · have HHT := Lib.hid hT
    have HE := Lib.hid (show Ex w4 (fun g => g < w4.heap.size) T v4 from hE.keep fun g hg => ⟨hg.2, rfl⟩)
    clear hT hE HSP4
    cases l4 with
    | nil =>
      simp only [List.length_nil] at c0
      have hev : Ie.eval l = if T.isBad then (0, 91) else Ie.comes T := by rw [HEV.out, HHT.out]
      have HEV2 := Lib.hid hev
      obtain ⟨q, hq⟩ : ∃ q, q = T.isBad := ⟨_, rfl⟩
      rw [← hq] at c2 HEV2
      clear hev hq
      cases q with
      | true =>
        have e91 : (if true = true then (91 : Int) else 0) = 91 := rfl
        rw [e91] at c2
        clear e91
        go_wp2_with fail
        go_quiet (fail)
        go_wp2_with fail
        go_ret2
        exact ⟨_, 91, rfl, ⟨HWB.out.os, HWB.out.tape, HWB.out.output, HWB.out.size, HWB.out.block⟩, .inr ⟨HEV2.out, by decide⟩⟩
      | false =>
        have e0 : (if false = true then (91 : Int) else 0) = 0 := rfl
        rw [e0] at c2
        clear e0
        go_wp2_with fail
        go_ret2
        exact ⟨_, 0, rfl, HWB.out, .inl ⟨T, HEV2.out, rfl, HE.out⟩⟩
    | cons t r =>
      obtain ⟨n, hn⟩ : ∃ n, n = r.length := ⟨_, rfl⟩
      simp only [List.length_cons] at c0
      rw [← hn] at c0
      have hev : Ie.eval l = (0, 90) := by rw [HEV.out, HHT.out]
      have HEV2 := Lib.hid hev
      clear hev hn
      have z1 : (0 : Int) < (n : Int) + 1 := by omega
      go_wp2_with fail
      go_ret2
      exact ⟨_, 90, rfl, HWB.out, .inr ⟨HEV2.out, by decide⟩⟩
  · have hev : Ie.eval l = (0, 90) := by rw [HEV.out, hN]
    have HEV2 := Lib.hid hev
    clear hev hN HSP4
    go_wp2_with fail
    go_ret2
    exact ⟨_, 90, rfl, HWB.out, .inr ⟨HEV2.out, by decide⟩⟩

def EvalPost (w : World) (l : List K) (e : Ending) (w' : World) : Prop := e = .returned (.tuple #[.int .i64 (Ie.eval l).1, .int .i64 (Ie.eval l).2]) ∧ Below w.heap.size w w'
set_option maxRecDepth 100000 in
set_option maxHeartbeats 4000000 in
theorem ieval_any (HN : NumC 13 Ie.number) (HQ : NumC 15 Ie.quote) (v : Value) (l : List K) (w : World) (hG : Gv w) (hv : Ks w v l) (hT : Tb l) : Calls Tryz.prog 9 #[v] w (EvalPost w l) := by
  have K1 := Lib.hid (iread_any HN HQ v l w hG hv hT)
  clear hG hv hT HN HQ
  go_enter Tryz.func9, Tryz.ntmps9
  go_wp2_with fail
  refine K1.out.mono ?_
  rintro en w2 ⟨v2, er, rfl, hB2, h⟩
  have HB2 := Lib.hid hB2
  clear hB2
  rcases h with ⟨T, hT, rfl, hE⟩ | ⟨hev, hne⟩
  · obtain ⟨t, p, f, rfl, hn, hm, he, hcl⟩ := val_any hE w2 (Nat.le_refl _) (fun _ _ => rfl)
    have HM := Lib.hid hcl
    have HHT := Lib.hid hT
    clear hcl hT hE
    go_wp2_with fail
    refine HM.out.mono ?_
    rintro e3 w3 ⟨rfl, hB3⟩
    go_wp2_with fail
    go_ret2
    refine ⟨?_, Below.then HB2.out hB3⟩
    rw [HHT.out]
    rfl
  · have HEV := Lib.hid hev
    clear hev
    go_wp2_with fail
    go_ret2
    refine ⟨?_, HB2.out⟩
    rw [HEV.out]
    rfl
end Go.Proofs.YtognifnalfjdgaaGreatDoor

/- What is proved: what Quote and the document's own Quote tell. -/
namespace Go.Proofs.YtognifnalfjdgaaGreatDoor
open Go.RowKit Go.Shelf

theorem byte9 {s : ByteArray} {i : Nat} {c : UInt8} (h : s.data.toList[i]? = some c) (hi : i < s.size) : ((s[i]'hi).toNat : Int) = c.toNat := by
  obtain ⟨h1, h2⟩ := List.getElem?_eq_some_iff.1 h
  have : s[i]'hi = c := by rw [← h2]; rfl
  rw [this]
theorem part_at {s : ByteArray} {a b i : Nat} {c : UInt8} (h : s.data.toList[a + i]? = some c) (hi : i < (s.extract a b).size) : (((s.extract a b)[i]'hi).toNat : Int) = c.toNat := by
  refine byte9 ?_ hi
  have hs : (s.extract a b).size = min b s.size - a := ByteArray.size_extract
  rw [hs] at hi
  rw [Lib.extract_data, List.getElem?_take, List.getElem?_drop, if_pos (by omega)]
  exact h
theorem u8_of {c : UInt8} {k : Nat} (h : (c.toNat : Int) = k) (hk : k < 256) : c = UInt8.ofNat k := by
  apply UInt8.toNat_inj.1
  rw [UInt8.toNat_ofNat']
  have : k % 2 ^ 8 = k := Nat.mod_eq_of_lt hk
  omega
theorem Ie.quote_none {l : List UInt8} (h3 : l.length ≠ 3) (h4 : l.length ≠ 4) : Ie.quote l = none := by
  match l, h3, h4 with
  | [], _, _ => rfl
  | [_], _, _ => rfl
  | [_, _], _, _ => rfl
  | [_, _, _], h, _ => exact absurd rfl h
  | [_, _, _, _], _, h => exact absurd rfl h
  | _ :: _ :: _ :: _ :: _ :: _, _, _ => rfl
theorem Ie.esc_none {c : UInt8} (h0 : ¬ (c.toNat : Int) = 110) (h1 : ¬ (c.toNat : Int) = 116) (h2 : ¬ (c.toNat : Int) = 114) (h3 : ¬ (c.toNat : Int) = 48) (h4 : ¬ (c.toNat : Int) = 97) (h5 : ¬ (c.toNat : Int) = 98) (h6 : ¬ (c.toNat : Int) = 102) (h7 : ¬ (c.toNat : Int) = 118) (h8 : ¬ (c.toNat : Int) = 92) (h9 : ¬ (c.toNat : Int) = 39) (h10 : ¬ (c.toNat : Int) = 34) (h11 : ¬ (c.toNat : Int) = 63) : Ie.esc c = none := by
  unfold Ie.esc
  rw [if_neg (fun h => h0 (by rw [h]; rfl)), if_neg (fun h => h1 (by rw [h]; rfl)), if_neg (fun h => h2 (by rw [h]; rfl)), if_neg (fun h => h3 (by rw [h]; rfl)), if_neg (fun h => h4 (by rw [h]; rfl)), if_neg (fun h => h5 (by rw [h]; rfl)), if_neg (fun h => h6 (by rw [h]; rfl)), if_neg (fun h => h7 (by rw [h]; rfl)), if_neg (fun h => h8 (by rw [h]; rfl)), if_neg (fun h => h9 (by rw [h]; rfl)), if_neg (fun h => h10 (by rw [h]; rfl)), if_neg (fun h => h11 (by rw [h]; rfl))]

set_option maxRecDepth 100000 in
set_option maxHeartbeats 2000000 in
theorem escaped_any (c : UInt8) (w : World) : Calls Tryz.prog 40 #[.int .u8 c.toNat] w fun e w' => e = .returned (.tuple #[.int .i64 (Ie.nv (Ie.esc c)), .int .i64 (Ie.ne (Ie.esc c))]) ∧ w' = w := by
  by_cases h0 : (c.toNat : Int) = 110
  · have he : Ie.esc c = some 10 := by rw [u8_of (k := 110) h0 (by decide)]; rfl
    rw [he, h0]
    clear he
    go_enter Tryz.func40, Tryz.ntmps40
    go_wp2_with fail
    go_ret2
    exact ⟨rfl, rfl⟩
  by_cases h1 : (c.toNat : Int) = 116
  · have he : Ie.esc c = some 9 := by rw [u8_of (k := 116) h1 (by decide)]; rfl
    rw [he, h1]
    clear he
    go_enter Tryz.func40, Tryz.ntmps40
    go_wp2_with fail
    go_ret2
    exact ⟨rfl, rfl⟩
  by_cases h2 : (c.toNat : Int) = 114
  · have he : Ie.esc c = some 13 := by rw [u8_of (k := 114) h2 (by decide)]; rfl
    rw [he, h2]
    clear he
    go_enter Tryz.func40, Tryz.ntmps40
    go_wp2_with fail
    go_ret2
    exact ⟨rfl, rfl⟩
  by_cases h3 : (c.toNat : Int) = 48
  · have he : Ie.esc c = some 0 := by rw [u8_of (k := 48) h3 (by decide)]; rfl
    rw [he, h3]
    clear he
    go_enter Tryz.func40, Tryz.ntmps40
    go_wp2_with fail
    go_ret2
    exact ⟨rfl, rfl⟩
  by_cases h4 : (c.toNat : Int) = 97
  · have he : Ie.esc c = some 7 := by rw [u8_of (k := 97) h4 (by decide)]; rfl
    rw [he, h4]
    clear he
    go_enter Tryz.func40, Tryz.ntmps40
    go_wp2_with fail
    go_ret2
    exact ⟨rfl, rfl⟩
  by_cases h5 : (c.toNat : Int) = 98
  · have he : Ie.esc c = some 8 := by rw [u8_of (k := 98) h5 (by decide)]; rfl
    rw [he, h5]
    clear he
    go_enter Tryz.func40, Tryz.ntmps40
    go_wp2_with fail
    go_ret2
    exact ⟨rfl, rfl⟩
  by_cases h6 : (c.toNat : Int) = 102
  · have he : Ie.esc c = some 12 := by rw [u8_of (k := 102) h6 (by decide)]; rfl
    rw [he, h6]
    clear he
    go_enter Tryz.func40, Tryz.ntmps40
    go_wp2_with fail
    go_ret2
    exact ⟨rfl, rfl⟩
  by_cases h7 : (c.toNat : Int) = 118
  · have he : Ie.esc c = some 11 := by rw [u8_of (k := 118) h7 (by decide)]; rfl
    rw [he, h7]
    clear he
    go_enter Tryz.func40, Tryz.ntmps40
    go_wp2_with fail
    go_ret2
    exact ⟨rfl, rfl⟩
  by_cases h8 : (c.toNat : Int) = 92
  · have he : Ie.esc c = some 92 := by rw [u8_of (k := 92) h8 (by decide)]; rfl
    rw [he, h8]
    clear he
    go_enter Tryz.func40, Tryz.ntmps40
    go_wp2_with fail
    go_ret2
    exact ⟨rfl, rfl⟩
  by_cases h9 : (c.toNat : Int) = 39
  · have he : Ie.esc c = some 39 := by rw [u8_of (k := 39) h9 (by decide)]; rfl
    rw [he, h9]
    clear he
    go_enter Tryz.func40, Tryz.ntmps40
    go_wp2_with fail
    go_ret2
    exact ⟨rfl, rfl⟩
  by_cases h10 : (c.toNat : Int) = 34
  · have he : Ie.esc c = some 34 := by rw [u8_of (k := 34) h10 (by decide)]; rfl
    rw [he, h10]
    clear he
    go_enter Tryz.func40, Tryz.ntmps40
    go_wp2_with fail
    go_ret2
    exact ⟨rfl, rfl⟩
  by_cases h11 : (c.toNat : Int) = 63
  · have he : Ie.esc c = some 63 := by rw [u8_of (k := 63) h11 (by decide)]; rfl
    rw [he, h11]
    clear he
    go_enter Tryz.func40, Tryz.ntmps40
    go_wp2_with fail
    go_ret2
    exact ⟨rfl, rfl⟩
  rw [Ie.esc_none h0 h1 h2 h3 h4 h5 h6 h7 h8 h9 h10 h11]
  obtain ⟨C, hC⟩ : ∃ C : Int, C = c.toNat := ⟨_, rfl⟩
  rw [← hC] at h0 h1 h2 h3 h4 h5 h6 h7 h8 h9 h10 h11 ⊢
  clear hC
  go_enter Tryz.func40, Tryz.ntmps40
  go_wp2_with fail
  go_ret2
  exact ⟨rfl, rfl⟩

theorem list3 {s : ByteArray} (h : s.size = 3) : ∃ a b c, s.data.toList = [a, b, c] := by
  have hl : s.data.toList.length = 3 := by rw [Array.length_toList]; exact h
  match hs : s.data.toList, hl with
  | [a, b, c], _ => exact ⟨a, b, c, rfl⟩
theorem list4 {s : ByteArray} (h : s.size = 4) : ∃ a b c d, s.data.toList = [a, b, c, d] := by
  have hl : s.data.toList.length = 4 := by rw [Array.length_toList]; exact h
  match hs : s.data.toList, hl with
  | [a, b, c, d], _ => exact ⟨a, b, c, d, rfl⟩
theorem Ie.q3_yes {a b c : UInt8} (ha : (a.toNat : Int) = 39) (hc : (c.toNat : Int) = 39) (hb : ¬ (b.toNat : Int) = 92) : Ie.quote [a, b, c] = some b.toNat :=
  if_pos ⟨u8_of (k := 39) ha (by decide), u8_of (k := 39) hc (by decide), fun h => hb (by rw [h]; rfl)⟩
theorem Ie.q3_no {a b c : UInt8} (h : ¬ (a.toNat : Int) = 39 ∨ ¬ (c.toNat : Int) = 39 ∨ (b.toNat : Int) = 92) : Ie.quote [a, b, c] = none :=
  if_neg fun ⟨h1, h2, h3⟩ => by
    rcases h with h | h | h
    · exact h (by rw [h1]; rfl)
    · exact h (by rw [h2]; rfl)
    · exact h3 (u8_of (k := 92) h (by decide))
theorem Ie.q4_yes {a b c d : UInt8} (ha : (a.toNat : Int) = 39) (hd : (d.toNat : Int) = 39) (hb : (b.toNat : Int) = 92) : Ie.quote [a, b, c, d] = Ie.esc c :=
  if_pos ⟨u8_of (k := 39) ha (by decide), u8_of (k := 39) hd (by decide), u8_of (k := 92) hb (by decide)⟩
theorem Ie.q4_no {a b c d : UInt8} (h : ¬ (a.toNat : Int) = 39 ∨ ¬ (d.toNat : Int) = 39 ∨ ¬ (b.toNat : Int) = 92) : Ie.quote [a, b, c, d] = none :=
  if_neg fun ⟨h1, h2, h3⟩ => by
    rcases h with h | h | h
    · exact h (by rw [h1]; rfl)
    · exact h (by rw [h2]; rfl)
    · exact h (by rw [h3]; rfl)

set_option maxRecDepth 100000 in
set_option maxHeartbeats 4000000 in
theorem iquote_any : NumC 15 Ie.quote := by
  intro s w hG hs
  clear hG
  by_cases h3 : s.size = 3
  · obtain ⟨a, b, c, hl⟩ := list3 h3
    have g0 := byte9 (s := s) (i := 0) (c := a) (by rw [hl]; rfl) (by omega)
    have g2 := byte9 (s := s) (i := 2) (c := c) (by rw [hl]; rfl) (by omega)
    have gx := part_at (s := s) (a := 1) (b := 2) (i := 0) (c := b) (by rw [hl]; rfl) (by rw [ByteArray.size_extract]; omega)
    have hbb := b.toNat_lt
    rw [hl]
    have e1 := @Ie.q3_yes a b c
    have e2 := @Ie.q3_no a b c
    obtain ⟨A, hA⟩ : ∃ A : Int, A = a.toNat := ⟨_, rfl⟩
    obtain ⟨B, hB⟩ : ∃ B : Int, B = b.toNat := ⟨_, rfl⟩
    obtain ⟨C, hC⟩ : ∃ C : Int, C = c.toNat := ⟨_, rfl⟩
    have b1 : 0 ≤ B := by omega
    have b2 : B ≤ 255 := by omega
    rw [← hA, ← hB, ← hC] at e1 e2
    rw [← hA] at g0
    rw [← hC] at g2
    rw [← hB] at gx
    obtain ⟨q, hq⟩ : ∃ q, q = Ie.quote [a, b, c] := ⟨_, rfl⟩
    rw [← hq] at e1 e2
    have HB := Lib.hid hB
    rw [← hq]
    clear hl hA hB hC hq hbb
    by_cases ha : A = 39
    · by_cases hc : C = 39
      · by_cases hb : B = 92
        · have hq := e2 (.inr (.inr hb))
          subst hq
          clear e1 e2
          go_enter Tryz.func15, Tryz.ntmps15
          go_wp2_with fail
          go_ret2
          exact ⟨rfl, Below.refl _ _⟩
        · have hq := e1 ha hc hb
          subst hq
          have e3 : Ie.nv (some b.toNat) = B := HB.out.symm
          rw [e3]
          clear e1 e2
          go_enter Tryz.func15, Tryz.ntmps15
          go_wp2_with fail
          go_ret2
          exact ⟨rfl, Below.refl _ _⟩
      · have hq := e2 (.inr (.inl hc))
        subst hq
        clear e1 e2
        go_enter Tryz.func15, Tryz.ntmps15
        go_wp2_with fail
        go_ret2
        exact ⟨rfl, Below.refl _ _⟩
    · have hq := e2 (.inl ha)
      subst hq
      clear e1 e2
      go_enter Tryz.func15, Tryz.ntmps15
      go_wp2_with fail
      go_ret2
      exact ⟨rfl, Below.refl _ _⟩
  by_cases h4 : s.size = 4
  · obtain ⟨a, b, c, d, hl⟩ := list4 h4
    have g0 := byte9 (s := s) (i := 0) (c := a) (by rw [hl]; rfl) (by omega)
    have g3 := byte9 (s := s) (i := 3) (c := d) (by rw [hl]; rfl) (by omega)
    have gx := part_at (s := s) (a := 1) (b := 3) (i := 0) (c := b) (by rw [hl]; rfl) (by rw [ByteArray.size_extract]; omega)
    have gy := part_at (s := s) (a := 1) (b := 3) (i := 1) (c := c) (by rw [hl]; rfl) (by rw [ByteArray.size_extract]; omega)
    have K1 := Lib.hid (escaped_any c w)
    rw [hl]
    have e1 := @Ie.q4_yes a b c d
    have e2 := @Ie.q4_no a b c d
    obtain ⟨A, hA⟩ : ∃ A : Int, A = a.toNat := ⟨_, rfl⟩
    obtain ⟨B, hB⟩ : ∃ B : Int, B = b.toNat := ⟨_, rfl⟩
    obtain ⟨D, hD⟩ : ∃ D : Int, D = d.toNat := ⟨_, rfl⟩
    rw [← hA, ← hB, ← hD] at e1 e2
    rw [← hA] at g0
    rw [← hD] at g3
    rw [← hB] at gx
    obtain ⟨q, hq⟩ : ∃ q, q = Ie.quote [a, b, c, d] := ⟨_, rfl⟩
    rw [← hq] at e1 e2
    rw [← hq]
    clear hl hA hB hD hq
    by_cases ha : A = 39
    · by_cases hd : D = 39
      · by_cases hb : B = 92
        · have hq := e1 ha hd hb
          subst hq
          clear e1 e2
          go_enter Tryz.func15, Tryz.ntmps15
          go_wp2_with fail
          refine K1.out.mono ?_
          rintro e2 w2 ⟨rfl, rfl⟩
          go_wp2_with fail
          go_ret2
          exact ⟨rfl, Below.refl _ _⟩
        · have hq := e2 (.inr (.inr hb))
          subst hq
          clear e1 e2
          go_enter Tryz.func15, Tryz.ntmps15
          go_wp2_with fail
          go_ret2
          exact ⟨rfl, Below.refl _ _⟩
      · have hq := e2 (.inr (.inl hd))
        subst hq
        clear e1 e2
        go_enter Tryz.func15, Tryz.ntmps15
        go_wp2_with fail
        go_ret2
        exact ⟨rfl, Below.refl _ _⟩
    · have hq := e2 (.inl ha)
      subst hq
      clear e1 e2
      go_enter Tryz.func15, Tryz.ntmps15
      go_wp2_with fail
      go_ret2
      exact ⟨rfl, Below.refl _ _⟩
  · have hq : Ie.quote s.data.toList = none := Ie.quote_none (by rw [Array.length_toList]; exact h3) (by rw [Array.length_toList]; exact h4)
    rw [hq]
    clear hq
    rcases Nat.lt_or_ge s.size 2 with h2 | h2
    · go_enter Tryz.func15, Tryz.ntmps15
      go_wp2_with fail
      go_ret2
      exact ⟨rfl, Below.refl _ _⟩
    · have z1 : ¬ (((s.size : Int) - 1) < 1) := by omega
      have hse : (s.extract 1 (s.size - 1)).size = s.size - 2 := by rw [ByteArray.size_extract]; omega
      go_enter Tryz.func15, Tryz.ntmps15
      go_wp2_with fail
      all_goals
        go_ret2
        exact ⟨rfl, Below.refl _ _⟩

set_option maxRecDepth 100000 in
set_option maxHeartbeats 4000000 in
theorem rquote_any : NumC 16 Ie.quote := by
  intro s w hG hs
  clear hG
  by_cases h3 : s.size = 3
  · obtain ⟨a, b, c, hl⟩ := list3 h3
    have g0 := byte9 (s := s) (i := 0) (c := a) (by rw [hl]; rfl) (by omega)
    have g2 := byte9 (s := s) (i := 2) (c := c) (by rw [hl]; rfl) (by omega)
    have g1 := byte9 (s := s) (i := 1) (c := b) (by rw [hl]; rfl) (by omega)
    have hbb := b.toNat_lt
    rw [hl]
    have e1 := @Ie.q3_yes a b c
    have e2 := @Ie.q3_no a b c
    obtain ⟨A, hA⟩ : ∃ A : Int, A = a.toNat := ⟨_, rfl⟩
    obtain ⟨B, hB⟩ : ∃ B : Int, B = b.toNat := ⟨_, rfl⟩
    obtain ⟨C, hC⟩ : ∃ C : Int, C = c.toNat := ⟨_, rfl⟩
    have b1 : 0 ≤ B := by omega
    have b2 : B ≤ 255 := by omega
    rw [← hA, ← hB, ← hC] at e1 e2
    rw [← hA] at g0
    rw [← hC] at g2
    rw [← hB] at g1
    obtain ⟨q, hq⟩ : ∃ q, q = Ie.quote [a, b, c] := ⟨_, rfl⟩
    rw [← hq] at e1 e2
    have HB := Lib.hid hB
    rw [← hq]
    clear hl hA hB hC hq hbb
    by_cases ha : A = 39
    · by_cases hc : C = 39
      · by_cases hb : B = 92
        · have hq := e2 (.inr (.inr hb))
          subst hq
          clear e1 e2
          go_enter Tryz.func16, Tryz.ntmps16
          go_wp2_with fail
          go_ret2
          exact ⟨rfl, Below.refl _ _⟩
        · have hq := e1 ha hc hb
          subst hq
          have e3 : Ie.nv (some b.toNat) = B := HB.out.symm
          rw [e3]
          clear e1 e2
          go_enter Tryz.func16, Tryz.ntmps16
          go_wp2_with fail
          go_ret2
          exact ⟨rfl, Below.refl _ _⟩
      · have hq := e2 (.inr (.inl hc))
        subst hq
        clear e1 e2
        go_enter Tryz.func16, Tryz.ntmps16
        go_wp2_with fail
        go_ret2
        exact ⟨rfl, Below.refl _ _⟩
    · have hq := e2 (.inl ha)
      subst hq
      clear e1 e2
      go_enter Tryz.func16, Tryz.ntmps16
      go_wp2_with fail
      go_ret2
      exact ⟨rfl, Below.refl _ _⟩
  by_cases h4 : s.size = 4
  · obtain ⟨a, b, c, d, hl⟩ := list4 h4
    have g0 := byte9 (s := s) (i := 0) (c := a) (by rw [hl]; rfl) (by omega)
    have g3 := byte9 (s := s) (i := 3) (c := d) (by rw [hl]; rfl) (by omega)
    have g1 := byte9 (s := s) (i := 1) (c := b) (by rw [hl]; rfl) (by omega)
    have g2 := byte9 (s := s) (i := 2) (c := c) (by rw [hl]; rfl) (by omega)
    rw [hl]
    have e1 := @Ie.q4_yes a b c d
    have e2 := @Ie.q4_no a b c d
    obtain ⟨A, hA⟩ : ∃ A : Int, A = a.toNat := ⟨_, rfl⟩
    obtain ⟨B, hB⟩ : ∃ B : Int, B = b.toNat := ⟨_, rfl⟩
    obtain ⟨D, hD⟩ : ∃ D : Int, D = d.toNat := ⟨_, rfl⟩
    rw [← hA, ← hB, ← hD] at e1 e2
    rw [← hA] at g0
    rw [← hD] at g3
    rw [← hB] at g1
    obtain ⟨q, hq⟩ : ∃ q, q = Ie.quote [a, b, c, d] := ⟨_, rfl⟩
    rw [← hq] at e1 e2
    rw [← hq]
    clear hl hA hB hD hq
    by_cases ha : A = 39
    · by_cases hd : D = 39
      · by_cases hb : B = 92
        · have hq := e1 ha hd hb
          subst hq
          clear e1 e2
          by_cases y0 : (c.toNat : Int) = 110
          · have he : Ie.esc c = some 10 := by rw [u8_of (k := 110) y0 (by decide)]; rfl
            rw [he]
            rw [y0] at g2
            clear he y0
            go_enter Tryz.func16, Tryz.ntmps16
            go_wp2_with fail
            go_ret2
            exact ⟨rfl, Below.refl _ _⟩
          by_cases y1 : (c.toNat : Int) = 116
          · have he : Ie.esc c = some 9 := by rw [u8_of (k := 116) y1 (by decide)]; rfl
            rw [he]
            rw [y1] at g2
            clear he y1
            go_enter Tryz.func16, Tryz.ntmps16
            go_wp2_with fail
            go_ret2
            exact ⟨rfl, Below.refl _ _⟩
          by_cases y2 : (c.toNat : Int) = 114
          · have he : Ie.esc c = some 13 := by rw [u8_of (k := 114) y2 (by decide)]; rfl
            rw [he]
            rw [y2] at g2
            clear he y2
            go_enter Tryz.func16, Tryz.ntmps16
            go_wp2_with fail
            go_ret2
            exact ⟨rfl, Below.refl _ _⟩
          by_cases y3 : (c.toNat : Int) = 48
          · have he : Ie.esc c = some 0 := by rw [u8_of (k := 48) y3 (by decide)]; rfl
            rw [he]
            rw [y3] at g2
            clear he y3
            go_enter Tryz.func16, Tryz.ntmps16
            go_wp2_with fail
            go_ret2
            exact ⟨rfl, Below.refl _ _⟩
          by_cases y4 : (c.toNat : Int) = 97
          · have he : Ie.esc c = some 7 := by rw [u8_of (k := 97) y4 (by decide)]; rfl
            rw [he]
            rw [y4] at g2
            clear he y4
            go_enter Tryz.func16, Tryz.ntmps16
            go_wp2_with fail
            go_ret2
            exact ⟨rfl, Below.refl _ _⟩
          by_cases y5 : (c.toNat : Int) = 98
          · have he : Ie.esc c = some 8 := by rw [u8_of (k := 98) y5 (by decide)]; rfl
            rw [he]
            rw [y5] at g2
            clear he y5
            go_enter Tryz.func16, Tryz.ntmps16
            go_wp2_with fail
            go_ret2
            exact ⟨rfl, Below.refl _ _⟩
          by_cases y6 : (c.toNat : Int) = 102
          · have he : Ie.esc c = some 12 := by rw [u8_of (k := 102) y6 (by decide)]; rfl
            rw [he]
            rw [y6] at g2
            clear he y6
            go_enter Tryz.func16, Tryz.ntmps16
            go_wp2_with fail
            go_ret2
            exact ⟨rfl, Below.refl _ _⟩
          by_cases y7 : (c.toNat : Int) = 118
          · have he : Ie.esc c = some 11 := by rw [u8_of (k := 118) y7 (by decide)]; rfl
            rw [he]
            rw [y7] at g2
            clear he y7
            go_enter Tryz.func16, Tryz.ntmps16
            go_wp2_with fail
            go_ret2
            exact ⟨rfl, Below.refl _ _⟩
          by_cases y8 : (c.toNat : Int) = 92
          · have he : Ie.esc c = some 92 := by rw [u8_of (k := 92) y8 (by decide)]; rfl
            rw [he]
            rw [y8] at g2
            clear he y8
            go_enter Tryz.func16, Tryz.ntmps16
            go_wp2_with fail
            go_ret2
            exact ⟨rfl, Below.refl _ _⟩
          by_cases y9 : (c.toNat : Int) = 39
          · have he : Ie.esc c = some 39 := by rw [u8_of (k := 39) y9 (by decide)]; rfl
            rw [he]
            rw [y9] at g2
            clear he y9
            go_enter Tryz.func16, Tryz.ntmps16
            go_wp2_with fail
            go_ret2
            exact ⟨rfl, Below.refl _ _⟩
          by_cases y10 : (c.toNat : Int) = 34
          · have he : Ie.esc c = some 34 := by rw [u8_of (k := 34) y10 (by decide)]; rfl
            rw [he]
            rw [y10] at g2
            clear he y10
            go_enter Tryz.func16, Tryz.ntmps16
            go_wp2_with fail
            go_ret2
            exact ⟨rfl, Below.refl _ _⟩
          by_cases y11 : (c.toNat : Int) = 63
          · have he : Ie.esc c = some 63 := by rw [u8_of (k := 63) y11 (by decide)]; rfl
            rw [he]
            rw [y11] at g2
            clear he y11
            go_enter Tryz.func16, Tryz.ntmps16
            go_wp2_with fail
            go_ret2
            exact ⟨rfl, Below.refl _ _⟩
          rw [Ie.esc_none y0 y1 y2 y3 y4 y5 y6 y7 y8 y9 y10 y11]
          obtain ⟨C, hC⟩ : ∃ C : Int, C = c.toNat := ⟨_, rfl⟩
          rw [← hC] at g2 y0 y1 y2 y3 y4 y5 y6 y7 y8 y9 y10 y11
          clear hC
          go_enter Tryz.func16, Tryz.ntmps16
          go_wp2_with fail
          go_ret2
          exact ⟨rfl, Below.refl _ _⟩
        · have hq := e2 (.inr (.inr hb))
          subst hq
          clear e1 e2
          go_enter Tryz.func16, Tryz.ntmps16
          go_wp2_with fail
          go_ret2
          exact ⟨rfl, Below.refl _ _⟩
      · have hq := e2 (.inr (.inl hd))
        subst hq
        clear e1 e2
        go_enter Tryz.func16, Tryz.ntmps16
        go_wp2_with fail
        go_ret2
        exact ⟨rfl, Below.refl _ _⟩
    · have hq := e2 (.inl ha)
      subst hq
      clear e1 e2
      go_enter Tryz.func16, Tryz.ntmps16
      go_wp2_with fail
      go_ret2
      exact ⟨rfl, Below.refl _ _⟩
  · have hq : Ie.quote s.data.toList = none := Ie.quote_none (by rw [Array.length_toList]; exact h3) (by rw [Array.length_toList]; exact h4)
    rw [hq]
    clear hq
    rcases Nat.lt_or_ge s.size 3 with h2 | h2
    · go_enter Tryz.func16, Tryz.ntmps16
      go_wp2_with fail
      go_ret2
      exact ⟨rfl, Below.refl _ _⟩
    · have z1 : 4 < s.size := by omega
      go_enter Tryz.func16, Tryz.ntmps16
      go_wp2_with fail
      go_ret2
      exact ⟨rfl, Below.refl _ _⟩
end Go.Proofs.YtognifnalfjdgaaGreatDoor

/- What is proved: what strconv's toError tells, laid at this program. -/
namespace Go.Proofs.YtognifnalfjdgaaGreatDoor
open Go.Shelf
def laysPu17_ren : Go.Shelf.Ren := ⟨fun | 17 => 68 | 21 => 85 | 22 => 86 | 23 => 87 | 24 => 88 | 25 => 97 | 27 => 99 | 26 => 98 | 28 => 109 | 29 => 111 | 30 => 112 | 31 => 113 | 32 => 114 | 33 => 115 | 35 => 117 | 34 => 116 | 36 => 118 | 37 => 119 | 38 => 120 | 39 => 121 | 40 => 122 | n => n, fun | 9 => 9 | 3 => 3 | 24 => 67 | 34 => 114 | 4 => 4 | 39 => 116 | 44 => 129 | 37 => 77 | 0 => 0 | 47 => 109 | 50 => 138 | 48 => 136 | 2 => 2 | 52 => 144 | 22 => 65 | 5 => 5 | 55 => 147 | 59 => 150 | 60 => 140 | 20 => 20 | 61 => 151 | 36 => 79 | 65 => 155 | 66 => 156 | 67 => 91 | n => n, fun | 0 => 1 | 1 => 2 | 2 => 4 | 3 => 5 | 4 => 6 | n => n⟩
theorem laysPu17 : Go.Proofs.LaysPu.n17 Tryz.prog laysPu17_ren := {
  mixed := by kernel_rfl
  f17 := Tryz.func68.trans (congrArg some (by kernel_rfl))
  f21 := Tryz.func85.trans (congrArg some (by kernel_rfl))
  f22 := Tryz.func86.trans (congrArg some (by kernel_rfl))
  f23 := Tryz.func87.trans (congrArg some (by kernel_rfl))
  f24 := Tryz.func88.trans (congrArg some (by kernel_rfl))
  f25 := Tryz.func97.trans (congrArg some (by kernel_rfl))
  f26 := Tryz.func98.trans (congrArg some (by kernel_rfl))
  f27 := Tryz.func99.trans (congrArg some (by kernel_rfl))
  f28 := Tryz.func109.trans (congrArg some (by kernel_rfl))
  f29 := Tryz.func111.trans (congrArg some (by kernel_rfl))
  f30 := Tryz.func112.trans (congrArg some (by kernel_rfl))
  f31 := Tryz.func113.trans (congrArg some (by kernel_rfl))
  f32 := Tryz.func114.trans (congrArg some (by kernel_rfl))
  f33 := Tryz.func115.trans (congrArg some (by kernel_rfl))
  f34 := Tryz.func116.trans (congrArg some (by kernel_rfl))
  f35 := Tryz.func117.trans (congrArg some (by kernel_rfl))
  f36 := Tryz.func118.trans (congrArg some (by kernel_rfl))
  f37 := Tryz.func119.trans (congrArg some (by kernel_rfl))
  f38 := Tryz.func120.trans (congrArg some (by kernel_rfl))
  f39 := Tryz.func121.trans (congrArg some (by kernel_rfl))
  f40 := Tryz.func122.trans (congrArg some (by kernel_rfl))
  t0 := Tryz.underlying0
  a0 := Tryz.isAgg0
  z0 := Tryz.sizeOf0
  v0 := Tryz.zeroValue0
  i0 := by kernel_rfl
  t2 := Tryz.underlying2
  a2 := Tryz.isAgg2
  z2 := Tryz.sizeOf2
  v2 := Tryz.zeroValue2
  i2 := by kernel_rfl
  t3 := Tryz.underlying3
  a3 := Tryz.isAgg3
  z3 := Tryz.sizeOf3
  v3 := Tryz.zeroValue3
  i3 := by kernel_rfl
  t4 := Tryz.underlying4
  a4 := Tryz.isAgg4
  z4 := Tryz.sizeOf4
  v4 := Tryz.zeroValue4
  i4 := by kernel_rfl
  t5 := Tryz.underlying5
  a5 := Tryz.isAgg5
  z5 := Tryz.sizeOf5
  v5 := Tryz.zeroValue5
  i5 := by kernel_rfl
  t9 := Tryz.underlying9
  a9 := Tryz.isAgg9
  z9 := Tryz.sizeOf9
  v9 := Tryz.zeroValue9
  i9 := by kernel_rfl
  t20 := Tryz.underlying20
  a20 := Tryz.isAgg20
  z20 := Tryz.sizeOf20
  v20 := Tryz.zeroValue20
  i20 := by kernel_rfl
  t22 := Tryz.underlying65
  a22 := Tryz.isAgg65
  z22 := Tryz.sizeOf65
  v22 := Tryz.zeroValue65
  i22 := by kernel_rfl
  t24 := Tryz.underlying67
  a24 := Tryz.isAgg67
  z24 := Tryz.sizeOf67
  v24 := Tryz.zeroValue67
  i24 := by kernel_rfl
  t34 := Tryz.underlying114
  a34 := Tryz.isAgg114
  z34 := Tryz.sizeOf114
  v34 := Tryz.zeroValue114
  i34 := by kernel_rfl
  c34 := by kernel_rfl
  t36 := Tryz.underlying79
  a36 := Tryz.isAgg79
  z36 := Tryz.sizeOf79
  v36 := Tryz.zeroValue79
  i36 := by kernel_rfl
  t37 := Tryz.underlying77
  a37 := Tryz.isAgg77
  z37 := Tryz.sizeOf77
  v37 := Tryz.zeroValue77
  i37 := by kernel_rfl
  t39 := Tryz.underlying116
  a39 := Tryz.isAgg116
  z39 := Tryz.sizeOf116
  v39 := Tryz.zeroValue116
  i39 := by kernel_rfl
  t44 := Tryz.underlying129
  a44 := Tryz.isAgg129
  z44 := Tryz.sizeOf129
  v44 := Tryz.zeroValue129
  i44 := by kernel_rfl
  t47 := Tryz.underlying109
  a47 := Tryz.isAgg109
  z47 := Tryz.sizeOf109
  v47 := Tryz.zeroValue109
  i47 := by kernel_rfl
  t48 := Tryz.underlying136
  a48 := Tryz.isAgg136
  z48 := Tryz.sizeOf136
  v48 := Tryz.zeroValue136
  i48 := by kernel_rfl
  t50 := Tryz.underlying138
  a50 := Tryz.isAgg138
  z50 := Tryz.sizeOf138
  v50 := Tryz.zeroValue138
  i50 := by kernel_rfl
  t52 := Tryz.underlying144
  a52 := Tryz.isAgg144
  z52 := Tryz.sizeOf144
  v52 := Tryz.zeroValue144
  i52 := by kernel_rfl
  t55 := Tryz.underlying147
  a55 := Tryz.isAgg147
  z55 := Tryz.sizeOf147
  v55 := Tryz.zeroValue147
  i55 := by kernel_rfl
  t59 := Tryz.underlying150
  a59 := Tryz.isAgg150
  z59 := Tryz.sizeOf150
  v59 := Tryz.zeroValue150
  i59 := by kernel_rfl
  t60 := Tryz.underlying140
  a60 := Tryz.isAgg140
  z60 := Tryz.sizeOf140
  v60 := Tryz.zeroValue140
  i60 := by kernel_rfl
  t61 := Tryz.underlying151
  a61 := Tryz.isAgg151
  z61 := Tryz.sizeOf151
  t65 := Tryz.underlying155
  a65 := Tryz.isAgg155
  z65 := Tryz.sizeOf155
  v65 := Tryz.zeroValue155
  i65 := by kernel_rfl
  t66 := Tryz.underlying156
  a66 := Tryz.isAgg156
  z66 := Tryz.sizeOf156
  v66 := Tryz.zeroValue156
  i66 := by kernel_rfl
  t67 := Tryz.underlying91
  a67 := Tryz.isAgg91
  z67 := Tryz.sizeOf91
  v67 := Tryz.zeroValue91
  i67 := by kernel_rfl
  g0 := by kernel_rfl
  m0 := by kernel_rfl
  g1 := by kernel_rfl
  m1 := by kernel_rfl
  g2 := by kernel_rfl
  m2 := by kernel_rfl
  g3 := by kernel_rfl
  m3 := by kernel_rfl
  g4 := by kernel_rfl
  m4 := by kernel_rfl }

open Go.RowKit
theorem toerr_syntax (fn s : ByteArray) (base bits : Int) (w : World) (hs : s.size ≤ 1000000) (hE : Errs w) :
    Calls Tryz.prog 68 #[.string fn, .string s, .int .i64 base, .int .i64 bits, .iface 114 (.int .i64 2)] w fun e w' => (∃ t p, e = .returned (.iface t p)) ∧ Below w.heap.size w w' := by
  obtain ⟨⟨te, pe, h⟩, _⟩ := hE
  exact (AnyPu.strconv_toError_syntax laysPu17 fn s base bits _ w (by omega) h (.inr ⟨te, pe, rfl⟩)).mono fun e w' ⟨N, h1, _, _, h2⟩ => ⟨⟨_, _, h1⟩, h2⟩
theorem toerr_range (fn s : ByteArray) (base bits : Int) (w : World) (hs : s.size ≤ 1000000) (hE : Errs w) :
    Calls Tryz.prog 68 #[.string fn, .string s, .int .i64 base, .int .i64 bits, .iface 114 (.int .i64 1)] w fun e w' => (∃ t p, e = .returned (.iface t p)) ∧ Below w.heap.size w w' := by
  obtain ⟨_, te, pe, h⟩ := hE
  exact (AnyPu.strconv_toError_range laysPu17 fn s base bits _ w (by omega) h (.inr ⟨te, pe, rfl⟩)).mono fun e w' ⟨N, h1, _, _, h2⟩ => ⟨⟨_, _, h1⟩, h2⟩
end Go.Proofs.YtognifnalfjdgaaGreatDoor

/- What is proved: what strconv's ParseUint tells of digits of 8, 10 or 16, in 63 bits. -/
namespace Go.Proofs.YtognifnalfjdgaaGreatDoor
open Go.RowKit Go.Shelf

namespace Ie
/-- What comes of digits: a number, no digits, too great. -/
inductive PR
  | ok (n : Nat)
  | syn
  | rng
def pu (b : Nat) : Nat → List UInt8 → PR
  | acc, [] => .ok acc
  | acc, c :: r => if dig c < b then (if most < acc * b + dig c then .rng else pu b (acc * b + dig c) r) else .syn
def prV : PR → Int
  | .ok n => n
  | .syn => 0
  | .rng => 9223372036854775807
end Ie
def prE : Ie.PR → Value
  | .ok _ => .nilIface
  | .syn => .iface 114 (.int .i64 2)
  | .rng => .iface 114 (.int .i64 1)

/-- The bit 32 set. -/
def lowB (c : UInt8) : Int := bits .or .u8 c.toNat 32
theorem low_cases : ∀ c : UInt8, (0 ≤ lowB c ∧ lowB c ≤ 255) ∧
    ((48 ≤ c.toNat ∧ c.toNat ≤ 57 ∧ Ie.dig c = c.toNat - 48) ∨ (¬ (48 ≤ c.toNat ∧ c.toNat ≤ 57) ∧ c.toNat ≠ 95 ∧ 97 ≤ lowB c ∧ lowB c ≤ 102 ∧ (Ie.dig c : Int) = lowB c - 87) ∨
     (¬ (48 ≤ c.toNat ∧ c.toNat ≤ 57) ∧ c.toNat ≠ 95 ∧ 103 ≤ lowB c ∧ lowB c ≤ 122 ∧ 16 ≤ Ie.dig c) ∨ (¬ (48 ≤ c.toNat ∧ c.toNat ≤ 57) ∧ ¬ (97 ≤ lowB c ∧ lowB c ≤ 122) ∧ 16 ≤ Ie.dig c)) := by
  have key : ∀ n : Fin 256, (0 ≤ lowB (UInt8.ofNat n.val) ∧ lowB (UInt8.ofNat n.val) ≤ 255) ∧
    ((48 ≤ (UInt8.ofNat n.val).toNat ∧ (UInt8.ofNat n.val).toNat ≤ 57 ∧ Ie.dig (UInt8.ofNat n.val) = (UInt8.ofNat n.val).toNat - 48) ∨ (¬ (48 ≤ (UInt8.ofNat n.val).toNat ∧ (UInt8.ofNat n.val).toNat ≤ 57) ∧ (UInt8.ofNat n.val).toNat ≠ 95 ∧ 97 ≤ lowB (UInt8.ofNat n.val) ∧ lowB (UInt8.ofNat n.val) ≤ 102 ∧ (Ie.dig (UInt8.ofNat n.val) : Int) = lowB (UInt8.ofNat n.val) - 87) ∨
     (¬ (48 ≤ (UInt8.ofNat n.val).toNat ∧ (UInt8.ofNat n.val).toNat ≤ 57) ∧ (UInt8.ofNat n.val).toNat ≠ 95 ∧ 103 ≤ lowB (UInt8.ofNat n.val) ∧ lowB (UInt8.ofNat n.val) ≤ 122 ∧ 16 ≤ Ie.dig (UInt8.ofNat n.val)) ∨ (¬ (48 ≤ (UInt8.ofNat n.val).toNat ∧ (UInt8.ofNat n.val).toNat ≤ 57) ∧ ¬ (97 ≤ lowB (UInt8.ofNat n.val) ∧ lowB (UInt8.ofNat n.val) ≤ 122) ∧ 16 ≤ Ie.dig (UInt8.ofNat n.val))) := by decide +kernel
  intro c
  have h := key ⟨c.toNat, c.toNat_lt⟩
  simpa using h

theorem lower_any (c : UInt8) (w : World) : Calls Tryz.prog 83 #[.int .u8 c.toNat] w fun e w' => e = .returned (.int .u8 (lowB c)) ∧ w' = w := by
  go_enter Tryz.func83, Tryz.ntmps83
  go_wp2_with fail
  go_ret
  exact ⟨rfl, rfl⟩
def PuPost (w : World) (r : Ie.PR) (e : Ending) (w' : World) : Prop := e = .returned (.tuple #[.int .u64 (Ie.prV r), prE r]) ∧ Below w.heap.size w w'
theorem bytes_below (w : World) (t : ByteArray) (e : TypeId) : Below w.heap.size w (Lib.bytesWorld w e t) :=
  ⟨rfl, rfl, rfl, by rw [Lib.bytesWorld_size]; omega, fun k hk => Lib.bytesWorld_at_old w e t k hk⟩

set_option maxRecDepth 100000 in
theorem pu_empty (b : Int) (w : World) : Calls Tryz.prog 67 #[.string ⟨#[]⟩, .int .i64 b, .int .i64 63] w (PuPost w .syn) := by
  have e0 : ((⟨#[]⟩ : ByteArray).toList == []) = true := lit_yes rfl
  go_enter Tryz.func67, Tryz.ntmps67
  go_wp2_with fail
  go_ret2
  exact ⟨rfl, Below.refl _ _⟩
end Go.Proofs.YtognifnalfjdgaaGreatDoor

/- What is proved: what strconv's ParseUint tells of digits of 8, in 63 bits. -/
namespace Go.Proofs.YtognifnalfjdgaaGreatDoor
open Go.RowKit Go.Shelf

set_option maxRecDepth 100000 in
set_option maxHeartbeats 32000000 in
theorem pu_8 (t : ByteArray) (hne : t.size ≠ 0) (hmax : t.size ≤ 1000000) (w : World) : Calls Tryz.prog 67 #[.string t, .int .i64 8, .int .i64 63] w (PuPost w (Ie.pu 8 0 t.data.toList)) := by
  have hemp : (t.toList == []) = false := lit_no (fun h => hne (by rw [h]; rfl))
  have hcv := Lib.run_convert_string_bytes (P := Tryz.prog) w 9 77 5 t (u := .string) Tryz.underlying9 Tryz.underlying77 Tryz.underlying5
  have hB : ∀ j, j < t.size → (Lib.bytesWorld w 5 t).cell? ⟨w.heap.size, j, none⟩ = some (.int .u8 (t.data.toList.getD j 0).toNat) := fun j hj => Lib.bytesWorld_cell w 5 t j hj
  have hBel := bytes_below w t 5
  obtain ⟨W1, hW1⟩ : ∃ W1, W1 = Lib.bytesWorld w 5 t := ⟨_, rfl⟩
  rw [← hW1] at hcv hB hBel
  clear hW1
  obtain ⟨bs, hL⟩ : ∃ bs, bs = t.data.toList := ⟨_, rfl⟩
  have hLn : bs.length = t.size := by rw [hL, Lib.size_eq]
  rw [← hL] at hB ⊢
  obtain ⟨n, hn⟩ : ∃ n, n = t.size := ⟨_, rfl⟩
  rw [← hn] at hLn hB hmax hne
  obtain ⟨S, hS⟩ : ∃ S, S = Ie.pu 8 0 bs := ⟨_, rfl⟩
  rw [← hS]
  have HS := Lib.hid hS
  have HBB := Lib.hid hB
  have HBel := Lib.hid hBel
  have HLn := Lib.hid hLn
  have hmv : IntKind.u64.wrap (IntKind.u64.wrap 9223372036854775808 - 1) = 9223372036854775807 := by
    rw [IntKind.wrap_u64, IntKind.wrap_u64]
    decide
  clear hL hB hBel hLn hS
  go_enter Tryz.func67, Tryz.ntmps67
  go_wp2_with fail
  go_loop [12, 13, 101] (fun vu vn vi => ∃ (k acc : Nat) (a : Int), vu = .bool false ∧ vn = .int .u64 a ∧ vi = .int .i64 k ∧ k ≤ n ∧ Hid (a = (acc : Int) ∧ acc ≤ 9223372036854775807 ∧ S = Ie.pu 8 acc (bs.drop k)))
    (fun _ _ vi => n - (intOf vi).toNat)
  case atStart => exact ⟨0, 0, 0, rfl, rfl, rfl, by omega, Lib.hid ⟨rfl, by omega, HS.out⟩⟩
  case round =>
    obtain ⟨k, acc, a, rfl, rfl, rfl, hk, hh⟩ := hrel
    obtain ⟨ha, hacc, hdec⟩ := hh.out
    clear hh
    have a0 : 0 ≤ a := by omega
    have a1 : a ≤ 9223372036854775807 := by omega
    by_cases hkn : k < n
    · have hc := HBB.out k hkn
      have hkl : k < bs.length := by rw [HLn.out]; exact hkn
      have hdrop : bs.drop k = bs[k]'hkl :: bs.drop (k + 1) := List.drop_eq_getElem_cons hkl
      have hget : bs.getD k 0 = bs[k]'hkl := by simp [List.getD, List.getElem?_eq_getElem hkl]
      rw [hdrop] at hdec
      rw [hget] at hc
      generalize bs[k]'hkl = c at hc hdec
      have hc256 : c.toNat < 256 := c.toNat_lt
      obtain ⟨⟨lb0, lb1⟩, hcase⟩ := low_cases c
      have KL := Lib.hid (lower_any c)
      have hpc : Ie.pu 8 acc (c :: bs.drop (k + 1)) = if Ie.dig c < 8 then (if Ie.most < acc * 8 + Ie.dig c then .rng else Ie.pu 8 (acc * 8 + Ie.dig c) (bs.drop (k + 1))) else .syn := rfl
      rw [hpc] at hdec
      obtain ⟨D, hD⟩ : ∃ D, D = Ie.dig c := ⟨_, rfl⟩
      obtain ⟨L, hL⟩ : ∃ L, L = lowB c := ⟨_, rfl⟩
      rw [← hD] at hdec
      rw [← hD, ← hL] at hcase
      rw [← hL] at lb0 lb1
      have KL2 : Hid (∀ w, Calls Tryz.prog 83 #[.int .u8 c.toNat] w fun e w' => e = .returned (.int .u8 L) ∧ w' = w) := Lib.hid (by rw [hL]; exact lower_any c)
      clear hdrop hget hkl hpc hD hL KL
      obtain ⟨C, hC⟩ : ∃ C : Int, C = c.toNat := ⟨_, rfl⟩
      rw [← hC] at hc KL2
      have hC0 : 0 ≤ C := by omega
      have hC1 : C ≤ 255 := by omega
      have hwr1 : ∀ x : Int, 0 ≤ x → x ≤ 18446744073709551615 → IntKind.u64.wrap x = x := fun x h0 h1 => by rw [IntKind.wrap_u64]; omega
      have HWR := Lib.hid hwr1
      clear hwr1
      -- the digit d, whatever the way that it came
      rcases hcase with ⟨c0, c1, hd⟩ | ⟨c0, c1, l0, l1, hd⟩ | ⟨c0, c1, l0, l1, hd⟩ | ⟨c0, l0, hd⟩
      · have i0 : 48 ≤ C := by omega
        have i1 : C ≤ 57 := by omega
        have hd' : (D : Int) = C - 48 := by omega
        clear hC c0 c1 hc256
        by_cases hlt : D < 8
        · rw [if_pos hlt] at hdec
          have j1 : C < 56 := by omega
          by_cases hcut : 2305843009213693952 ≤ a
          · have hr : Ie.most < acc * 8 + D := by unfold Ie.most; omega
            rw [if_pos hr] at hdec
            have HD := Lib.hid hdec
            clear hdec hr hlt ha hacc hd hd'
            go_wp2_with fail
            go_ret2
            exact ⟨by rw [HD.out]; rfl, HBel.out⟩
          have q1 : IntKind.u64.wrap (a * 8) = a * 8 := HWR.out _ (by omega) (by omega)
          by_cases hov : 9223372036854775807 < a * 8 + (C - 48)
          · have hr : Ie.most < acc * 8 + D := by unfold Ie.most; omega
            rw [if_pos hr] at hdec
            have HD := Lib.hid hdec
            clear hdec hr hlt ha hacc hd hd'
            by_cases hbig : a * 8 + (C - 48) ≤ 18446744073709551615
            · have q2 : IntKind.u64.wrap (a * 8 + (C - 48)) = a * 8 + (C - 48) := HWR.out _ (by omega) hbig
              go_wp2_with fail
              go_ret2
              exact ⟨by rw [HD.out]; rfl, HBel.out⟩
            · exact absurd (by omega) hbig
          have q2 : IntKind.u64.wrap (a * 8 + (C - 48)) = a * 8 + (C - 48) := HWR.out _ (by omega) (by omega)
          have hr : ¬ Ie.most < acc * 8 + D := by unfold Ie.most; omega
          rw [if_neg hr] at hdec
          have HN : Hid (a * 8 + (C - 48) = ((acc * 8 + D : Nat) : Int) ∧ acc * 8 + D ≤ 9223372036854775807 ∧ S = Ie.pu 8 (acc * 8 + D) (bs.drop (k + 1))) := Lib.hid ⟨by omega, by unfold Ie.most at hr; omega, hdec⟩
          clear hdec hr hlt ha hacc hd hd'
          go_wp2_with fail
          go_round
          case rel => exact ⟨k + 1, acc * 8 + D, a * 8 + (C - 48), rfl, (by first | rfl | (congr 1; omega)), (by first | rfl | (congr 1; omega)), by omega, HN⟩
          case measure => simp [intOf]; omega
        · rw [if_neg hlt] at hdec
          have HD := Lib.hid hdec
          have j1 : 56 ≤ C := by omega
          clear hdec hlt hd hd' ha hacc
          go_wp2_with fail
          go_ret2
          exact ⟨by rw [HD.out]; rfl, HBel.out⟩
      · have i0 : C < 48 ∨ 57 < C := by omega
        have i2 : ¬ C = 95 := by omega
        have i1 : ¬ (48 ≤ C ∧ C ≤ 57) := by omega
        clear hC c0 c1 hc256
        have hlt : ¬ D < 8 := by omega
        · rw [if_neg hlt] at hdec
          have HD := Lib.hid hdec
          have j1 : 95 ≤ L := by omega
          clear hdec hlt hd ha hacc
          rcases i0 with i0 | i0
          all_goals
            go_wp2_with fail
            refine (KL2.out _).mono ?_
            rintro e w' ⟨rfl, rfl⟩
            go_wp2_with fail
            refine (KL2.out _).mono ?_
            rintro e w' ⟨rfl, rfl⟩
            go_wp2_with fail
            refine (KL2.out _).mono ?_
            rintro e w' ⟨rfl, rfl⟩
            go_wp2_with fail
            go_ret2
            exact ⟨by rw [HD.out]; rfl, HBel.out⟩
      · have i0 : C < 48 ∨ 57 < C := by omega
        have i2 : ¬ C = 95 := by omega
        rw [if_neg (by omega)] at hdec
        have HD := Lib.hid hdec
        clear hC c0 c1 hc256 hdec ha hacc hd
        rcases i0 with i0 | i0
        all_goals
          go_wp2_with fail
          refine (KL2.out _).mono ?_
          rintro e w' ⟨rfl, rfl⟩
          go_wp2_with fail
          refine (KL2.out _).mono ?_
          rintro e w' ⟨rfl, rfl⟩
          go_wp2_with fail
          refine (KL2.out _).mono ?_
          rintro e w' ⟨rfl, rfl⟩
          go_wp2_with fail
          go_ret2
          exact ⟨by rw [HD.out]; rfl, HBel.out⟩
      · have i0 : C < 48 ∨ 57 < C := by omega
        rw [if_neg (by omega)] at hdec
        have HD := Lib.hid hdec
        clear hC c0 hc256 hdec ha hacc hd
        have hcb : (C == 95) = true ∨ (C == 95) = false := by cases C == 95 <;> simp
        have l2 : L < 97 ∨ 122 < L := by omega
        clear l0
        rcases i0 with i0 | i0
        all_goals
          rcases hcb with hcb | hcb
          all_goals
            rcases l2 with l2 | l2
            all_goals
              go_wp2_with (first | (refine (KL2.out _).mono ?_; rintro e w' ⟨rfl, rfl⟩))
              go_ret2
              exact ⟨by rw [HD.out]; rfl, HBel.out⟩
    · obtain rfl : k = n := by omega
      rw [List.drop_eq_nil_of_le (by rw [HLn.out]; exact Nat.le_refl _)] at hdec
      have HD := Lib.hid hdec
      have HA := Lib.hid ha
      clear hdec ha hacc
      go_wp2_with fail
      go_ret2
      refine ⟨?_, HBel.out⟩
      rw [HD.out]
      show _ = Ending.returned (.tuple #[.int .u64 (acc : Int), .nilIface])
      rw [← HA.out]
      rfl
end Go.Proofs.YtognifnalfjdgaaGreatDoor
