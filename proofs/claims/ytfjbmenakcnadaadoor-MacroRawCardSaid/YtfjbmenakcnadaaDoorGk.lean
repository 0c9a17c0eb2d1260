/- What is proved: what the document's own params tells. (and what stands with it) -/
import Derived.Test.YtfjbmenakcnadaaDoorGj
import Derived.Deep.Strs
import Derived.Deep.Cut
import Derived.Deep.CutRange
import Derived.Deep.DeepCutAuto
import Derived.RegionCalls

/- What is proved: what the document's own params tells. -/
namespace Go.Proofs.YtfjbmenakcnadaaDoor
open Go.RowKit Go.Shelf Go.WideMaps

namespace Mx
/-- What params tells: the names, is there more, and how many tokens. -/
def rpar (l : List K) : List ByteArray × Bool × Int :=
  if isAt l 0 RP then ([], false, 1) else match plist [] l with | some (ps, va, r) => (ps, va, (l.length : Int) - r.length) | none => ([], false, -1)
end Mx
theorem isAt_of {l : List K} {i : Nat} {t : K} (h : l[i]? = some t) (s : ByteArray) : isAt l i s = Mx.isP t s := by simp [isAt, h]
theorem isAt_out {l : List K} {i : Nat} (h : l.length ≤ i) (s : ByteArray) : isAt l i s = false := by simp [isAt, List.getElem?_eq_none h]

/-- One step of a list of parameters, by places. -/
theorem plist_at {l : List K} {i : Nat} {t : K} (ps : List ByteArray) (h : l[i]? = some t) : Mx.plist ps (l.drop i) =
    if parGood ps t then (if isAt l (i + 1) Mx.RP then some (parPs ps t, Mx.isP t Mx.EL, l.drop (i + 2)) else if isAt l (i + 1) Mx.CM && !Mx.isP t Mx.EL then Mx.plist (parPs ps t) (l.drop (i + 2)) else none) else none := by
  rw [drop_cons_of h]
  cases hb : l[i + 1]? with
  | some b =>
    rw [drop_cons_of hb, plist_two, isAt_of hb, isAt_of hb]
  | none =>
    have hl : l.length ≤ i + 1 := List.getElem?_eq_none_iff.1 hb
    rw [isAt_out hl, isAt_out hl, List.drop_eq_nil_of_le hl]
    simp [Mx.plist]

theorem isAt_lt {l : List K} {i : Nat} {s : ByteArray} (h : isAt l i s = true) : i < l.length := by
  rcases Nat.lt_or_ge i l.length with h' | h'
  · exact h'
  · rw [isAt_out h'] at h; cases h
theorem drop_len {l : List K} {k : Nat} (h : k + 1 < l.length) : (l.length : Int) - (l.drop (k + 2)).length = ((k + 2 : Nat) : Int) := by
  rw [List.length_drop]; omega
theorem row_len {w : World} {base e sz n m c : Nat} {a : Option Addr} {xs : List Value} (h : w.ownsRow base e sz (.slice a m c) n xs) : m = n := by
  rcases h.2 with ⟨h', h0⟩ | ⟨g, cap, cur, h', _⟩
  · injection h' with _ h1 _; omega
  · injection h' with _ h1 _

def RParPost (w : World) (res : List ByteArray × Bool × Int) (e : Ending) (w' : World) : Prop :=
  ∃ pv, e = .returned (.tuple #[pv, .bool res.2.1, .int .i64 res.2.2]) ∧ w'.ownsRow w.heap.size 9 1 pv res.1.length (strCells res.1) ∧ Below w.heap.size w w'

theorem strCells_get {ps : List ByteArray} {k : Nat} {s : ByteArray} (h : ps[k]? = some s) : (strCells ps)[k]? = some (.string s) := by
  simp [strCells, h]

set_option maxRecDepth 100000 in
set_option maxHeartbeats 4000000 in
theorem rparams_any (v : Value) (l : List K) (w : World) (hv : Ks w v l) (hl : l.length * 56 ≤ 140737488355328) :
    Calls Tryd.prog 25 #[v] w (RParPost w (Mx.rpar l)) := by
  obtain ⟨i0, hi, hz0, hz1, hz2⟩ := info_parts infoStr
  obtain ⟨res, hres⟩ : ∃ res, res = Mx.rpar l := ⟨_, rfl⟩
  rw [← hres]
  obtain ⟨ad, cap, rfl, hc1, hc2, hc3⟩ := id hv
  have HV := Lib.hid hv
  have hlb : l.length ≤ 2513169434917 := by omega
  have HLB := Lib.hid hlb
  have ks0 := fun w1 h => rsign_at (.slice ad l.length cap) l 0 Mx.RP w1 h (by omega)
  cases hrp : isAt l 0 Mx.RP with
  | true =>
    rw [hrp] at ks0
    have HE := Lib.hid (show res = ([], false, 1) by rw [hres, Mx.rpar, hrp]; rfl)
    clear hres hc3 hv
    go_enter Tryd.func25, Tryd.ntmps25
    go_wp2_with fail
    refine (ks0 _ HV.out).mono ?_
    rintro e W1 ⟨rfl, hW⟩
    subst hW
    go_wp2_with fail
    refine bodyPost_ret (v := .tuple #[.slice none 0 0, .bool false, .int .i64 1]) (by simp [results, Tryd.results25, go_sem]) rfl ?_
    rw [HE.out]
    exact ⟨_, rfl, World.ownsRow_nil _ _ _ _, Below.refl _ _⟩
  | false =>
    rw [hrp] at ks0
    have HN := Lib.hid (show Mx.plist [] l = none → res = ([], false, -1) by intro h; rw [hres, Mx.rpar, hrp, h]; rfl)
    have HS := Lib.hid (show ∀ ps va r, Mx.plist [] l = some (ps, va, r) → res = (ps, va, (l.length : Int) - r.length) by intro ps va r h; rw [hres, Mx.rpar, hrp, h]; rfl)
    obtain ⟨n, hn⟩ : ∃ n, n = l.length := ⟨_, rfl⟩
    rw [← hn] at hc1 hlb ks0 HV HLB hl ⊢
    have Hn := Lib.hid hn
    have HC3 := Lib.hid hc3
    have hpl : Mx.plist [] l = Mx.plist [] (l.drop 0) := rfl
    have HP0 := Lib.hid hpl
    have HL := Lib.hid hl
    clear hres hc3 hv hn hpl hl hrp
    go_enter Tryd.func25, Tryd.ntmps25
    go_wp2_with fail
    refine (ks0 _ HV.out).mono ?_
    rintro e W1 ⟨rfl, hW⟩
    subst hW
    obtain ⟨W0, hW0⟩ : ∃ W0, W0 = W1 := ⟨_, rfl⟩
    go_wp2_with fail
    go_loopw [6, 7] (fun u i wr => ∃ (k : Nat) (ps : List ByteArray), i = .int .i64 k ∧ wr.ownsRow W1.heap.size 9 1 u ps.length (strCells ps) ∧ Below W1.heap.size W1 wr ∧ k ≤ n ∧ ps.length ≤ k ∧ Mx.plist [] l = Mx.plist ps (l.drop k)) (fun _ i _ => n - (intOf i).toNat)
    case atStart => exact ⟨0, [], rfl, World.ownsRow_nil _ _ _ _, Below.refl _ _, Nat.zero_le _, Nat.le_refl _, HP0.out⟩
    case round =>
      obtain ⟨k, ps, rfl, hrow, hB, hk, hps, hpl⟩ := hrel
      by_cases hlt : k < n
      · obtain ⟨t, ht⟩ : ∃ t, l[k]? = some t := ⟨_, List.getElem?_eq_getElem (by rw [← Hn.out]; exact hlt)⟩
        rw [plist_at ps ht] at hpl
        obtain ⟨g, o, hadr, ha⟩ := HC3.out k t ht
        subst hadr
        have hgl : g < W1.heap.size := lt_of_cell ha.1
        have e1 := isAt_of ht Mx.EL
        have hvr := HV.out.below hB
        have k1 := rsign_at _ l k Mx.EL wr hvr (by omega)
        have k2 := fun w1 h => rsign_at (.slice (some ⟨g, o, none⟩) n cap) l (k + 1) Mx.RP w1 h (by omega)
        have k3 := fun w1 h => rsign_at (.slice (some ⟨g, o, none⟩) n cap) l (k + 1) Mx.CM w1 h (by omega)
        rw [e1] at k1
        have y1 : (0 : Int) ≤ k := by omega
        have y2 : (k : Int) < n := by omega
        have y3 : IntKind.i64.wrap ((k : Int) + 1) = ((k + 1 : Nat) : Int) := by rw [IntWalk.i64_in _ (by omega)]; omega
        have y4 : IntKind.i64.wrap ((k : Int) + 2) = ((k + 2 : Nat) : Int) := by rw [IntWalk.i64_in _ (by omega)]; omega
        obtain ⟨q2, hq2⟩ : ∃ q, q = isAt l (k + 1) Mx.RP := ⟨_, rfl⟩
        obtain ⟨q3, hq3⟩ : ∃ q, q = isAt l (k + 1) Mx.CM := ⟨_, rfl⟩
        rw [← hq2] at k2
        rw [← hq3] at k3
        rw [← hq2, ← hq3] at hpl
        have HPL := Lib.hid hpl
        have HQ2 := Lib.hid hq2
        have HQ3 := Lib.hid hq3
        have HROW := Lib.hid hrow
        clear hpl hq2 hq3 e1 hrow
        cases hel : Mx.isP t Mx.EL with
        | true =>
          rw [hel] at k1
          have hgd : parGood ps t = true := by simp [parGood, hel]
          have hpp : parPs ps t = ps := by simp [parPs, hel]
          go_wp2_with fail
          refine k1.mono ?_
          rintro e W2 ⟨rfl, hW⟩
          subst hW
          go_wp2_with fail
          refine (k2 _ hvr).mono ?_
          rintro e W3 ⟨rfl, hW⟩
          subst hW
          cases q2 with
          | true =>
            have HE := Lib.hid (show res = (ps, true, (((k + 2 : Nat) : Int))) by
              have := HS.out ps true (l.drop (k + 2)) (by rw [HPL.out, hgd, hpp, hel]; rfl)
              rw [this, drop_len (isAt_lt HQ2.out.symm)])
            clear hgd hpp
            go_wp2_with fail
            refine bodyPost_ret (v := .tuple #[u6, .bool true, .int .i64 ((k + 2 : Nat) : Int)]) (by simp [results, Tryd.results25, go_sem]) rfl ?_
            rw [HE.out]
            exact ⟨_, rfl, HROW.out, hB⟩
          | false =>
            have HE := Lib.hid (show res = ([], false, -1) from HN.out (by rw [HPL.out, hgd, hel]; simp))
            clear hgd hpp
            go_wp2_with fail
            refine bodyPost_ret (v := .tuple #[.slice none 0 0, .bool false, .int .i64 (-1)]) (by simp [results, Tryd.results25, go_sem]) rfl ?_
            rw [HE.out]
            exact ⟨_, rfl, World.ownsRow_nil _ _ _ _, hB⟩
        | false =>
          rw [hel] at k1
          obtain ⟨kd, tx, tf, tfr, ten, tbl⟩ := t
          obtain ⟨a0, a1, -, -, -, -⟩ := ha.below hB hgl
          dsimp only at a0 a1
          by_cases hkd : kd = 1
          · subst hkd
            by_cases hva : tx = Mx.VA
            · have t2 : (tx.toList == [95, 95, 86, 65, 95, 65, 82, 71, 83, 95, 95]) = true := lit_yes hva
              have HE := Lib.hid (show res = ([], false, -1) from HN.out (by rw [HPL.out, show parGood ps ⟨1, tx, tf, tfr, ten, tbl⟩ = false by unfold parGood Mx.parOk; rw [hel]; simp [hva]]; rfl))
              clear hva
              go_wp2_with fail
              refine k1.mono ?_
              rintro e W2 ⟨rfl, hW⟩
              subst hW
              go_wp2_with fail
              refine bodyPost_ret (v := .tuple #[.slice none 0 0, .bool false, .int .i64 (-1)]) (by simp [results, Tryd.results25, go_sem]) rfl ?_
              rw [HE.out]
              exact ⟨_, rfl, World.ownsRow_nil _ _ _ _, hB⟩
            · have t2 : (tx.toList == [95, 95, 86, 65, 95, 65, 82, 71, 83, 95, 95]) = false := lit_no hva
              have hgd : parGood ps ⟨1, tx, tf, tfr, ten, tbl⟩ = !Mx.has ps tx := by simp [parGood, Mx.parOk, hel, hva]
              have hpp : parPs ps ⟨1, tx, tf, tfr, ten, tbl⟩ = ps ++ [tx] := by simp [parPs, hel]
              have HG := Lib.hid hgd
              have HPP := Lib.hid hpp
              have HEL := Lib.hid hel
              obtain ⟨pa, pm, pc, rfl⟩ := row_slice HROW.out
              obtain rfl := row_len HROW.out
              clear hva hgd hpp hel
              go_wp2_with fail
              refine k1.mono ?_
              rintro e W2 ⟨rfl, hW⟩
              subst hW
              go_wp2_with fail
              obtain ⟨m, hm⟩ : ∃ m, m = ps.length := ⟨_, rfl⟩
              rw [← hm] at HROW hps ⊢
              have Hm := Lib.hid hm
              clear hm a0 a1
              have hB0 := hB
              have HROW0 := HROW.out
              clear hB HROW hvr
              go_loopw [10] (fun i wx => ∃ j : Nat, i = .int .i64 j ∧ j ≤ m ∧ wx.ownsRow W1.heap.size 9 1 (.slice pa m pc) m (strCells ps) ∧ Below W1.heap.size W1 wx ∧ Mx.has (ps.take j) tx = false) (fun i _ => m - (intOf i).toNat)
              case atStart => exact ⟨0, rfl, Nat.zero_le _, HROW0, hB0, rfl⟩
              case round =>
                obtain ⟨j, rfl, hj, hrow, hB, hno⟩ := hrel
                by_cases hjm : j < m
                · obtain ⟨x, hx⟩ : ∃ x, ps[j]? = some x := ⟨_, List.getElem?_eq_getElem (by rw [← Hm.out]; exact hjm)⟩
                  obtain ⟨gp, pc', hev, hbg, hgl2⟩ := hrow.form (by omega)
                  injection hev with v1 v2 v3
                  subst v1 v3
                  have d0 := hrow.cells (g := gp) rfl j _ (strCells_get hx)
                  rw [add_none, Nat.zero_add] at d0
                  obtain ⟨b0, b1, -, -, -, -⟩ := ha.below hB hgl
                  dsimp only at b0 b1
                  have x1 : (0 : Int) ≤ j := by omega
                  have x2 : (j : Int) < m := by omega
                  have htk : Mx.has (ps.take (j + 1)) tx = (Mx.has (ps.take j) tx || decide (x = tx)) := by
                    rw [List.take_add_one, hx]; simp [Mx.has]
                  by_cases hxe : x = tx
                  · have t5 : (x.toList == tx.toList) = true := by rw [ba_beq]; exact decide_eq_true hxe
                    have hhas : Mx.has ps tx = true := by rw [Mx.has_iff, ← hxe]; exact List.mem_of_getElem? hx
                    have HE := Lib.hid (show res = ([], false, -1) from HN.out (by rw [HPL.out, HG.out, hhas]; rfl))
                    clear hxe hx htk hhas
                    go_wp2_with fail
                    go_quiet (fail)
                    go_wp2_with fail
                    refine bodyPost_ret (v := .tuple #[.slice none 0 0, .bool false, .int .i64 (-1)]) (by simp [results, Tryd.results25, go_sem]) rfl ?_
                    rw [HE.out]
                    exact ⟨_, rfl, World.ownsRow_nil _ _ _ _, below_drewN hB _⟩
                  · have t5 : (x.toList == tx.toList) = false := by rw [ba_beq]; exact decide_eq_false hxe
                    have hno2 : Mx.has (ps.take (j + 1)) tx = false := by rw [htk, hno]; simpa using hxe
                    have HNO := Lib.hid hno2
                    have HRW := Lib.hid hrow
                    clear hxe hx htk hno2 hno hrow
                    go_wp2_with fail
                    go_quiet (fail)
                    go_wp2_with fail
                    go_roundw
                    case rel => exact ⟨j + 1, by go_num, by omega, HRW.out, below_drewN hB _, HNO.out⟩
                    case measure => simp [intOf]; omega
                · have hhas : Mx.has ps tx = false := by rwa [List.take_of_length_le (by rw [← Hm.out]; omega)] at hno
                  have x2 : ¬ (j : Int) < m := by omega
                  obtain ⟨b0, b1, -, -, -, -⟩ := ha.below hB hgl
                  dsimp only at b0 b1
                  have hgd := HG.out
                  rw [hhas] at hgd
                  have hpl := HPL.out
                  rw [hgd, HPP.out, HEL.out] at hpl
                  simp only [Bool.not_false, if_true, Bool.and_true] at hpl
                  have HPL2 := Lib.hid hpl
                  have hrow0 := hrow
                  have hsB := hB.size
                  clear hhas hgd hpl hno hrow
                  go_wp2_with (at_builtin; refine wpList_append_own _ rfl _ _ 23 rfl W1.heap.size 9 i0 _ 1 16 Tryd.underlying23 hi hz0 hz1 hz2 rfl (by decide) _ _ _ rfl (hrow0.alloc _) ⟨wr.heap.size, 0, none⟩ 1 1 [.string tx] rfl rfl (cell_one_new _ _ _) ?qc3 ?qc4 ?qc5 ?qc6 ?_)
                  case qc3 => simp [Value.oneCell']
                  case qc4 => unfold maxLen; omega
                  case qc5 => have := HL.out; omega
                  case qc6 => first | omega | (simp; omega)
                  intro v' w1 hown hgrow hnil
                  have hBn : Below W1.heap.size W1 w1 := (hB.alloc hsB _).grown hgrow (by first | omega | (simp; omega)) (fun q hq => (hrow0.lt q hq).1)
                  have hvn := HV.out.below hBn
                  have hown2 : w1.ownsRow W1.heap.size 9 1 v' (ps ++ [tx]).length (strCells (ps ++ [tx])) := by
                    rw [strCells_append, List.length_append, ← Hm.out]; exact hown
                  have HOWN := Lib.hid hown2
                  clear hown hown2 hgrow hrow0
                  go_wp2_with fail
                  refine (k2 _ hvn).mono ?_
                  rintro e W2 ⟨rfl, hW⟩
                  subst hW
                  cases q2 with
                  | true =>
                    have HE := Lib.hid (show res = (ps ++ [tx], false, (((k + 2 : Nat) : Int))) by
                      have := HS.out (ps ++ [tx]) false (l.drop (k + 2)) HPL2.out
                      rw [this, drop_len (isAt_lt HQ2.out.symm)])
                    go_wp2_with fail
                    refine bodyPost_ret (v := .tuple #[v', .bool false, .int .i64 ((k + 2 : Nat) : Int)]) (by simp [results, Tryd.results25, go_sem]) rfl ?_
                    rw [HE.out]
                    exact ⟨_, rfl, HOWN.out, hBn⟩
                  | false =>
                    go_wp2_with fail
                    refine (k3 _ hvn).mono ?_
                    rintro e W3 ⟨rfl, hW⟩
                    subst hW
                    cases q3 with
                    | false =>
                      have HE := Lib.hid (show res = ([], false, -1) from HN.out HPL2.out)
                      go_wp2_with fail
                      refine bodyPost_ret (v := .tuple #[.slice none 0 0, .bool false, .int .i64 (-1)]) (by simp [results, Tryd.results25, go_sem]) rfl ?_
                      rw [HE.out]
                      exact ⟨_, rfl, World.ownsRow_nil _ _ _ _, hBn⟩
                    | true =>
                      have hlt2 := isAt_lt HQ3.out.symm
                      rw [← Hn.out] at hlt2
                      go_wp2_with fail
                      go_roundw
                      case rel => exact ⟨k + 2, ps ++ [tx], by go_num, HOWN.out, hBn, by omega, by rw [List.length_append, ← Hm.out]; simp; omega, HPL2.out⟩
                      case measure => simp [intOf]; omega
          · have t3 : (kd == 1) = false := by simpa using hkd
            have t4 : (kd != 1) = true := by simpa using hkd
            have HE := Lib.hid (show res = ([], false, -1) from HN.out (by rw [HPL.out]; simp [parGood, Mx.parOk, hel, hkd]))
            clear hkd
            go_wp2_with fail
            refine k1.mono ?_
            rintro e W2 ⟨rfl, hW⟩
            subst hW
            go_wp2_with fail
            refine bodyPost_ret (v := .tuple #[.slice none 0 0, .bool false, .int .i64 (-1)]) (by simp [results, Tryd.results25, go_sem]) rfl ?_
            rw [HE.out]
            exact ⟨_, rfl, World.ownsRow_nil _ _ _ _, hB⟩
      · have hkn : k = n := by omega
        have HE := Lib.hid (show res = ([], false, -1) from HN.out (by rw [hpl, List.drop_eq_nil_of_le (by rw [← Hn.out]; omega)]; rfl))
        have y2 : ¬ (k : Int) < n := by omega
        clear hpl
        go_wp2_with fail
        refine bodyPost_ret (v := .tuple #[.slice none 0 0, .bool false, .int .i64 (-1)]) (by simp [results, Tryd.results25, go_sem]) rfl ?_
        rw [HE.out]
        exact ⟨_, rfl, World.ownsRow_nil _ _ _ _, hB⟩
end Go.Proofs.YtfjbmenakcnadaaDoor

/- What is proved: where a name stands, as the document's own Param tells it. -/
namespace Go.Proofs.YtfjbmenakcnadaaDoor
open Go.RowKit Go.Shelf Go.WideMaps

/-- A slice value whose elements are these texts. -/
def Sts (W : World) (v : Value) (ps : List ByteArray) : Prop :=
  ∃ ad cap, v = .slice ad ps.length cap ∧ ps.length ≤ cap ∧ cap ≤ maxLen ∧ ∀ i s, ps[i]? = some s → ∃ g o, ad = some ⟨g, o, none⟩ ∧ W.cell? ⟨g, o + i, none⟩ = some (.string s)
theorem Sts.below {W W' : World} {v : Value} {ps : List ByteArray} (h : Sts W v ps) (hb : Below W.heap.size W W') : Sts W' v ps := by
  obtain ⟨ad, cap, rfl, h1, h2, h3⟩ := h
  refine ⟨ad, cap, rfl, h1, h2, fun i s hs => ?_⟩
  obtain ⟨g, o, e, c⟩ := h3 i s hs
  exact ⟨g, o, e, (hb.cell (p := ⟨g, o + i, none⟩) (lt_of_cell c)).trans c⟩
theorem Sts.of_row {W : World} {base n : Nat} {v : Value} {ps : List ByteArray} (h : W.ownsRow base 9 1 v n (strCells ps)) : Sts W v ps := by
  obtain rfl : n = ps.length := by have := h.1; rw [strCells_length] at this; omega
  have hc := fun g => h.cells (g := g)
  rcases h.2 with ⟨rfl, h0⟩ | ⟨g, cap, cur, rfl, _, _, h1, h2, _, _⟩
  · refine ⟨none, 0, by rw [h0], by omega, Nat.zero_le _, fun i x hx => ?_⟩
    rw [List.length_eq_zero_iff.1 h0] at hx
    simp at hx
  · refine ⟨_, cap, rfl, h1, h2, fun i t ht => ⟨g, 0, rfl, ?_⟩⟩
    have := hc g rfl i _ (strCells_get ht)
    rwa [add_none] at this
theorem Sts.cells {W : World} {v : Value} {ps : List ByteArray} (h : Sts W v ps) (hl : 0 < ps.length) :
    ∃ g o cap, v = .slice (some ⟨g, o, none⟩) ps.length cap ∧ ps.length ≤ cap ∧ cap ≤ maxLen ∧ g < W.heap.size ∧ ∀ i s, ps[i]? = some s → W.cell? ⟨g, o + i, none⟩ = some (.string s) := by
  obtain ⟨ad, cap, rfl, h1, h2, h3⟩ := h
  obtain ⟨g, o, rfl, c0⟩ := h3 0 _ (List.getElem?_eq_getElem hl)
  refine ⟨g, o, cap, rfl, h1, h2, lt_of_cell c0, fun i s hs => ?_⟩
  obtain ⟨g', o', e, c⟩ := h3 i s hs
  injection e with e
  injection e with e1 e2
  subst e1 e2
  exact c

namespace Mx
def pidx (ps : List ByteArray) (nm : ByteArray) : Int := if has ps nm then ((ps.findIdx fun p => decide (p = nm) : Nat) : Int) else -1
/-- A parameter's place, as the document's own Param tells it. -/
def rpidx (ps : List ByteArray) (va : Bool) (nm : ByteArray) : Int := if va && decide (nm = VA) then ps.length else pidx ps nm
theorem pidx_hit {ps : List ByteArray} {nm : ByteArray} {k : Nat} (h : ps[k]? = some nm) (hn : has (ps.take k) nm = false) : pidx ps nm = k := by
  have hh : has ps nm = true := (has_iff _ _).2 (List.mem_of_getElem? h)
  obtain ⟨hk, e⟩ := List.getElem?_eq_some_iff.1 h
  have : ps.findIdx (fun p => decide (p = nm)) = k := by
    rw [List.findIdx_eq hk]
    refine ⟨by simp [e], fun j hj => ?_⟩
    have hm : ps[j] ∈ ps.take k := by
      rw [List.mem_take_iff_getElem]
      exact ⟨j, by omega, rfl⟩
    refine decide_eq_false fun e' => ?_
    rw [e'] at hm
    rw [(has_iff _ _).2 hm] at hn
    cases hn
  rw [pidx, if_pos hh, this]
theorem pidx_miss {ps : List ByteArray} {nm : ByteArray} (h : has ps nm = false) : pidx ps nm = -1 := by rw [pidx, h]; rfl
theorem pidx_neg (ps : List ByteArray) (nm : ByteArray) : (pidx ps nm < 0) ↔ has ps nm = false := by
  unfold pidx
  cases has ps nm with
  | true => simp
  | false => simp
theorem rpidx_known (ps : List ByteArray) (va : Bool) (t : K) (hk : t.kind = 1) : (rpidx ps va t.text < 0) ↔ known ps va t = false := by
  unfold rpidx known
  by_cases h : (va && decide (t.text = VA)) = true
  · rw [if_pos h, h, hk]; simp
  · rw [if_neg h, pidx_neg, hk]; simp at h ⊢
    cases has ps t.text <;> simp_all
end Mx

set_option maxRecDepth 100000 in
set_option maxHeartbeats 2000000 in
theorem rparam_any (nm name : ByteArray) (fn va : Bool) (pv bv : Value) (ps : List ByteArray) (w : World) (hp : Sts w pv ps) (hb : ∃ a m c, bv = .slice a m c) :
    Calls Tryd.prog 20 #[.agg #[.string nm, .bool fn, pv, .bool va, bv], .string name] w fun e w' => e = .returned (.int .i64 (Mx.rpidx ps va name)) ∧ Below w.heap.size w w' := by
  obtain ⟨ba, bm, bc, rfl⟩ := hb
  obtain ⟨ad, cap, rfl, h1, h2, h3⟩ := id hp
  obtain ⟨m, hm⟩ : ∃ m, m = ps.length := ⟨_, rfl⟩
  rw [← hm] at h1 ⊢
  unfold maxLen at h2
  have hB : Below w.heap.size w (w.alloc (.cells #[.string nm, .bool fn, .slice ad m cap, .bool va, .slice ba bm bc] 26)) := (Below.refl _ w).alloc (Nat.le_refl _) _
  have hblk := heap_alloc_new w (.cells #[.string nm, .bool fn, .slice ad m cap, .bool va, .slice ba bm bc] 26)
  have HB := Lib.hid hB
  have HP := Lib.hid hp
  have Hm := Lib.hid hm
  have HBLK := Lib.hid hblk
  clear hp hm h3 hB hblk
  by_cases hv : (va && decide (name = Mx.VA)) = true
  · have hr : Mx.rpidx ps va name = m := by rw [Mx.rpidx, if_pos hv, Hm.out]
    rw [hr]
    simp only [Bool.and_eq_true, decide_eq_true_iff] at hv
    obtain ⟨rfl, hv⟩ := hv
    have t1 : (name.toList == [95, 95, 86, 65, 95, 65, 82, 71, 83, 95, 95]) = true := lit_yes hv
    clear hr hv
    go_enter Tryd.func20, Tryd.ntmps20
    go_wp2_with fail
    go_ret
    exact ⟨by first | rfl | trivial, HB.out⟩
  · have hr : Mx.rpidx ps va name = Mx.pidx ps name := by rw [Mx.rpidx, if_neg hv]
    rw [hr]
    have HR := Lib.hid hr
    have hva : va = false ∨ (va = true ∧ (name.toList == [95, 95, 86, 65, 95, 65, 82, 71, 83, 95, 95]) = false) := by
      cases va with
      | false => exact .inl rfl
      | true => exact .inr ⟨rfl, lit_no (show ¬ name = Mx.VA by simpa using hv)⟩
    clear hr hv
    obtain ⟨X, hX⟩ : ∃ X, X = Mx.pidx ps name := ⟨_, rfl⟩
    rw [← hX]
    have HXx := Lib.hid hX
    clear hX HR
    rcases hva with rfl | ⟨rfl, t1⟩
    all_goals
      go_enter Tryd.func20, Tryd.ntmps20
      go_wp2_with fail
      go_loopw [5] (fun i wr => ∃ k : Nat, i = .int .i64 k ∧ k ≤ m ∧ wr = w.alloc (.cells #[.string nm, .bool fn, .slice ad m cap, .bool _, .slice ba bm bc] 26) ∧ Mx.has (ps.take k) name = false) (fun i _ => m - (intOf i).toNat)
      case atStart => exact ⟨0, rfl, Nat.zero_le _, rfl, rfl⟩
      case round =>
        obtain ⟨k, rfl, hk, rfl, hno⟩ := hrel
        by_cases hkm : k < m
        · obtain ⟨x, hx⟩ : ∃ x, ps[k]? = some x := ⟨_, List.getElem?_eq_getElem (by rw [← Hm.out]; exact hkm)⟩
          obtain ⟨g, o, cap', hv', -, -, hgl, hcs⟩ := (HP.out).cells (by rw [← Hm.out]; omega)
          injection hv' with v1 v2 v3
          subst v1 v3
          have d0 := hcs k x hx
          have x1 : (0 : Int) ≤ k := by omega
          have x2 : (k : Int) < m := by omega
          by_cases hxe : x = name
          · have t5 : (x.toList == name.toList) = true := by rw [ba_beq]; exact decide_eq_true hxe
            have hX2 : X = k := by rw [HXx.out]; exact Mx.pidx_hit (by rw [hx, hxe]) hno
            subst hX2
            clear hno hx hxe hcs
            go_wp2_with fail
            go_ret
            exact ⟨by first | rfl | trivial, HB.out⟩
          · have t5 : (x.toList == name.toList) = false := by rw [ba_beq]; exact decide_eq_false hxe
            have hno2 : Mx.has (ps.take (k + 1)) name = false := by
              rw [List.take_add_one, hx]; simpa [Mx.has, hxe] using hno
            have HNO := Lib.hid hno2
            clear hno hno2 hx hxe hcs
            go_wp2_with fail
            go_roundw
            case rel => exact ⟨k + 1, by go_num, by omega, by first | rfl | trivial, HNO.out⟩
            case measure => simp [intOf]; omega
        · have hX2 : X = -1 := by rw [HXx.out]; exact Mx.pidx_miss (by rwa [List.take_of_length_le (by rw [← Hm.out]; omega)] at hno)
          subst hX2
          have x2 : ¬ (k : Int) < m := by omega
          clear hno
          go_wp2_with fail
          go_ret
          exact ⟨by first | rfl | trivial, HB.out⟩
end Go.Proofs.YtfjbmenakcnadaaDoor

/- What is proved: what the document's own Define tells. -/
namespace Go.Proofs.YtfjbmenakcnadaaDoor
open Go.RowKit Go.Shelf Go.WideMaps

def zeroCells : Array Value := #[.string ⟨#[]⟩, .bool false, .slice none 0 0, .bool false, .slice none 0 0]
/-- The macro that the document's own Define makes, in block B + 2; nothing in B and B + 1. -/
structure RD (W : World) (B : Nat) (nm : ByteArray) (fn : Bool) (pv : Value) (ps : List ByteArray) (va : Bool) (bv : Value) : Prop where
  b0 : W.heap[B]? = some (.cells zeroCells 26 (0, 0))
  b1 : W.heap[B + 1]? = some (.cells zeroCells 26 (0, 0))
  b2 : W.heap[B + 2]? = some (.cells #[.string nm, .bool fn, pv, .bool va, bv] 26 (0, 0))
  prow : W.ownsRow (B + 3) 9 1 pv ps.length (strCells ps)
theorem RD.keep {W W' : World} {B : Nat} {nm : ByteArray} {fn va : Bool} {pv bv : Value} {ps : List ByteArray} (h : RD W B nm fn pv ps va bv) (hb : Below W.heap.size W W') : RD W' B nm fn pv ps va bv :=
  ⟨(hb.block _ (lt_of_block h.b0)).trans h.b0, (hb.block _ (lt_of_block h.b1)).trans h.b1, (hb.block _ (lt_of_block h.b2)).trans h.b2, row_below h.prow hb⟩

theorem plist_left (n : Nat) : ∀ (l : List K) (ps : List ByteArray) (res : List ByteArray × Bool × List K), l.length ≤ n → Mx.plist ps l = some res → res.2.2 = l.drop (l.length - res.2.2.length) := by
  intro l ps res hn h
  obtain ⟨pre, hp⟩ := plist_suffix n l ps res hn h
  have hl : l.length - res.2.2.length = pre.length := by rw [← hp]; simp
  rw [hl]
  conv => rhs; rw [← hp]
  simp
/-- What stands behind a bracket, by what params tells. -/
theorem brack_rpar {u : K} {r : List K} (hb : u.bl = false) (hp : Mx.isP u Mx.LP = true) :
    ((Mx.rpar r).2.2 < 0 ∧ Mx.brack (u :: r) = .error 61) ∨ ∃ k : Nat, (Mx.rpar r).2.2 = k ∧ k ≤ r.length ∧ Mx.brack (u :: r) = .ok (true, (Mx.rpar r).1, (Mx.rpar r).2.1, r.drop k) := by
  rcases r with _ | ⟨c, r⟩
  · exact .inl ⟨by simp [Mx.rpar, isAt, Mx.plist], by simp [Mx.brack, hb, hp]⟩
  · cases hc : Mx.isP c Mx.RP with
    | true => exact .inr ⟨1, by simp [Mx.rpar, isAt, hc], by simp, by simp [Mx.brack, hb, hp, hc, Mx.rpar, isAt]⟩
    | false =>
      cases hl : Mx.plist [] (c :: r) with
      | none => exact .inl ⟨by simp [Mx.rpar, isAt, hc, hl], by simp [Mx.brack, hb, hp, hc, hl]⟩
      | some x =>
        obtain ⟨ps, va, l⟩ := x
        have h1 := plist_left _ _ _ _ (Nat.le_refl _) hl
        have h2 := (plist_suffix _ _ _ _ (Nat.le_refl _) hl).length_le
        dsimp only at h1 h2
        refine .inr ⟨(c :: r).length - l.length, ?_, Nat.sub_le _ _, ?_⟩
        · simp only [Mx.rpar, isAt, hc, hl, List.getElem?_cons_zero]
          simp only [Bool.false_eq_true, if_false]
          omega
        · rw [← h1]
          simp [Mx.brack, hb, hp, hc, hl, Mx.rpar, isAt]

def DefRel (w : World) (nm : ByteArray) (r : List K) (sv : Value) (wx : World) : Prop :=
  ∃ fn ps va b pv, Mx.brack r = .ok (fn, ps, va, b) ∧ Lf wx w.heap.size sv b ∧ RD wx w.heap.size nm fn pv ps va (.slice none 0 0) ∧ Below w.heap.size w wx

/-- A world with the error's answer in block B. -/
theorem def_zero {w W : World} {res : Mx.M × Int} {err : Int} (hr : res = (.zero, err)) (hB : Below w.heap.size w W) : DefPost w res (.returned (.tuple #[.agg #[.string ⟨#[]⟩, .bool false, .slice none 0 0, .bool false, .slice none 0 0], .int .i64 err])) W := by
  subst hr
  exact ⟨_, rfl, ⟨_, _, rfl, World.ownsRow_nil _ _ _ _, World.ownsRow_nil _ _ _ _⟩, hB⟩
theorem zeros_set (W : World) (B : Nat) (h : W.heap[B]? = some (.cells zeroCells 26 (0, 0))) :
    (((((W.setCell ⟨B, 0, none⟩ (.string ⟨#[]⟩)).setCell ⟨B, 1, none⟩ (.bool false)).setCell ⟨B, 2, none⟩ (.slice none 0 0)).setCell ⟨B, 3, none⟩ (.bool false)).setCell ⟨B, 4, none⟩ (.slice none 0 0)).heap[B]? = some (.cells zeroCells 26 (0, 0)) := by
  simp [World.setCell, Array.getElem?_modify, h, zeroCells]
theorem zeros_below (w W : World) (B : Nat) (hB : w.heap.size ≤ B) (h : Below w.heap.size w W) :
    Below w.heap.size w (((((W.setCell ⟨B, 0, none⟩ (.string ⟨#[]⟩)).setCell ⟨B, 1, none⟩ (.bool false)).setCell ⟨B, 2, none⟩ (.slice none 0 0)).setCell ⟨B, 3, none⟩ (.bool false)).setCell ⟨B, 4, none⟩ (.slice none 0 0)) :=
  ((((h.setCell hB _).setCell hB _).setCell hB _).setCell hB _).setCell hB _
theorem zero_cells {W : World} {B : Nat} (h : W.heap[B]? = some (.cells zeroCells 26 (0, 0))) :
    W.cell? ⟨B, 0, none⟩ = some (.string ⟨#[]⟩) ∧ W.cell? ⟨B, 1, none⟩ = some (.bool false) ∧ W.cell? ⟨B, 2, none⟩ = some (.slice none 0 0) ∧ W.cell? ⟨B, 3, none⟩ = some (.bool false) ∧ W.cell? ⟨B, 4, none⟩ = some (.slice none 0 0) :=
  ⟨(Lib.cell_of_heap h 0).trans rfl, (Lib.cell_of_heap h 1).trans rfl, (Lib.cell_of_heap h 2).trans rfl, (Lib.cell_of_heap h 3).trans rfl, (Lib.cell_of_heap h 4).trans rfl⟩

set_option maxRecDepth 100000 in
set_option maxHeartbeats 4000000 in
theorem rdefine_nil (v : Value) (w : World) (hv : Ks w v ([] : List K)) :
    Calls Tryd.prog 11 #[v] w (DefPost w (Mx.defi [])) := by
  obtain ⟨ad, cap, rfl, hc1, hc2, hc3⟩ := id hv
  obtain ⟨res, hres⟩ : ∃ res, res = Mx.defi [] := ⟨_, rfl⟩
  rw [← hres]
  have hk0 := heap_alloc_new w (.cells #[.string ⟨#[]⟩, .bool false, .slice none 0 0, .bool false, .slice none 0 0] 26)
  replace hk0 := (Below.heap_alloc _ (.cells #[.string ⟨#[]⟩, .bool false, .slice none 0 0, .bool false, .slice none 0 0] 26) _ (lt_of_block hk0)).trans hk0
  have hk1 := heap_alloc_new (w.alloc (.cells #[.string ⟨#[]⟩, .bool false, .slice none 0 0, .bool false, .slice none 0 0] 26)) (.cells #[.string ⟨#[]⟩, .bool false, .slice none 0 0, .bool false, .slice none 0 0] 26)
  simp only [World.size_alloc] at hk1
  have hB2 : Below w.heap.size w ((w.alloc (.cells #[.string ⟨#[]⟩, .bool false, .slice none 0 0, .bool false, .slice none 0 0] 26)).alloc (.cells #[.string ⟨#[]⟩, .bool false, .slice none 0 0, .bool false, .slice none 0 0] 26)) := ((Below.refl _ w).alloc (Nat.le_refl _) _).alloc (by simp) _
  have HK0 := Lib.hid hk0
  have HK1 := Lib.hid hk1
  have HB2 := Lib.hid hB2
  have HRES := Lib.hid hres
  clear hk0 hk1 hB2 hres
  simp only [List.length_nil] at hc1
  clear hv hc3
  go_enter Tryd.func11, Tryd.ntmps11
  go_wp2_with fail
  obtain ⟨s0, s1, s2, s3, s4⟩ := zero_cells HK0.out
  refine bodyPost_ret (v := .tuple #[.agg #[.string ⟨#[]⟩, .bool false, .slice none 0 0, .bool false, .slice none 0 0], .int .i64 60]) (by simp [results, Tryd.results11, go_sem, s0, s1, s2, s3, s4]) rfl ?_
  exact def_zero HRES.out HB2.out

set_option maxRecDepth 100000 in
set_option maxHeartbeats 4000000 in
theorem rdefine_bad (v : Value) (t : K) (r : List K) (w : World) (hv : Ks w v (t :: r)) (hl : (t :: r).length * 56 ≤ 140737488355328) (hno : Mx.nameOk t = false) :
    Calls Tryd.prog 11 #[v] w (DefPost w (Mx.defi (t :: r))) := by
  obtain ⟨ad, cap, rfl, hc1, hc2, hc3⟩ := id hv
  obtain ⟨res, hres⟩ : ∃ res, res = Mx.defi (t :: r) := ⟨_, rfl⟩
  rw [← hres]
  have hk0 := heap_alloc_new w (.cells #[.string ⟨#[]⟩, .bool false, .slice none 0 0, .bool false, .slice none 0 0] 26)
  replace hk0 := (Below.heap_alloc _ (.cells #[.string ⟨#[]⟩, .bool false, .slice none 0 0, .bool false, .slice none 0 0] 26) _ (lt_of_block hk0)).trans hk0
  have hk1 := heap_alloc_new (w.alloc (.cells #[.string ⟨#[]⟩, .bool false, .slice none 0 0, .bool false, .slice none 0 0] 26)) (.cells #[.string ⟨#[]⟩, .bool false, .slice none 0 0, .bool false, .slice none 0 0] 26)
  simp only [World.size_alloc] at hk1
  have hB2 : Below w.heap.size w ((w.alloc (.cells #[.string ⟨#[]⟩, .bool false, .slice none 0 0, .bool false, .slice none 0 0] 26)).alloc (.cells #[.string ⟨#[]⟩, .bool false, .slice none 0 0, .bool false, .slice none 0 0] 26)) := ((Below.refl _ w).alloc (Nat.le_refl _) _).alloc (by simp) _
  have HK0 := Lib.hid hk0
  have HK1 := Lib.hid hk1
  have HB2 := Lib.hid hB2
  have HRES := Lib.hid hres
  clear hk0 hk1 hB2 hres
  obtain ⟨g, o, rfl, -, -, -, hg, hcs⟩ := hv.cells (by simp)
  have hLf : Lf w w.heap.size (.slice (some ⟨g, o, none⟩) (t :: r).length cap) (t :: r) := ⟨g, o, cap, rfl, hc1, hc2, hg, hcs⟩
  obtain ⟨a0, a1, -, -, -, -⟩ := hcs 0 t rfl
  simp only [Nat.zero_mul, Nat.add_zero] at a0 a1
  simp only [List.length_cons] at hc1 hl
  obtain ⟨n, hn⟩ : ∃ n, n = r.length := ⟨_, rfl⟩
  rw [show (t :: r).length = n + 1 by rw [hn]; rfl]
  rw [← hn] at hc1 hl
  have HN := Lib.hid hn
  have HL := Lib.hid hl
  have HLF := Lib.hid hLf
  clear hv hc3 hcs hn hLf hl hc2
  have zz : (((n : Int) + 1) == 0) = false := by simp; omega
  have HE := Lib.hid (show res = (.zero, 60) by rw [HRES.out]; simp [Mx.defi, hno])
  obtain ⟨kind, tx, tf, tfr, ten, tbl⟩ := t
  dsimp only at a0 a1
  simp only [Mx.nameOk, Bool.and_eq_false_iff, beq_eq_false_iff_ne, Bool.not_eq_false', decide_eq_true_iff] at hno
  by_cases h1 : kind = 1
  · subst h1
    by_cases hd : tx = Mx.DF
    · have t1 : (tx.toList == [100, 101, 102, 105, 110, 101, 100]) = true := lit_yes hd
      clear hno hd
      go_enter Tryd.func11, Tryd.ntmps11
      go_wp2_with fail
      obtain ⟨s0, s1, s2, s3, s4⟩ := zero_cells HK0.out
      refine bodyPost_ret (v := .tuple #[.agg #[.string ⟨#[]⟩, .bool false, .slice none 0 0, .bool false, .slice none 0 0], .int .i64 60]) (by simp [results, Tryd.results11, go_sem, s0, s1, s2, s3, s4]) rfl ?_
      exact def_zero HE.out HB2.out
    · have t1 : (tx.toList == [100, 101, 102, 105, 110, 101, 100]) = false := lit_no hd
      have t2 : (tx.toList == [95, 95, 86, 65, 95, 65, 82, 71, 83, 95, 95]) = true := lit_yes (show tx = Mx.VA by simpa [hd] using hno)
      clear hno hd
      go_enter Tryd.func11, Tryd.ntmps11
      go_wp2_with fail
      obtain ⟨s0, s1, s2, s3, s4⟩ := zero_cells HK0.out
      refine bodyPost_ret (v := .tuple #[.agg #[.string ⟨#[]⟩, .bool false, .slice none 0 0, .bool false, .slice none 0 0], .int .i64 60]) (by simp [results, Tryd.results11, go_sem, s0, s1, s2, s3, s4]) rfl ?_
      exact def_zero HE.out HB2.out
  · have t3 : (kind == 1) = false := by simpa using h1
    have t4 : (kind != 1) = true := by simpa using h1
    clear hno h1
    go_enter Tryd.func11, Tryd.ntmps11
    go_wp2_with fail
    obtain ⟨s0, s1, s2, s3, s4⟩ := zero_cells HK0.out
    refine bodyPost_ret (v := .tuple #[.agg #[.string ⟨#[]⟩, .bool false, .slice none 0 0, .bool false, .slice none 0 0], .int .i64 60]) (by simp [results, Tryd.results11, go_sem, s0, s1, s2, s3, s4]) rfl ?_
    exact def_zero HE.out HB2.out

end Go.Proofs.YtfjbmenakcnadaaDoor
