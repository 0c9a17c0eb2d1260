/- What is proved: what the document's own params tells. -/
import Derived.Test.YtfjbmenakcnadaaDoorM12
import Derived.Deep.Strs
namespace Go.Proofs.YtfjbmenakcnadaaDoor
open Go.RowKit Go.Shelf Go.WideMaps

namespace Mx
/-- What params tells: the names, is there more, and how many tokens. -/
def rpar (l : List K) : List ByteArray × Bool × Int :=
  if isAt l 0 RP then ([], false, 1) else match plist [] l with | some (ps, va, r) => (ps, va, (l.length : Int) - r.length) | none => ([], false, -1)
end Mx
theorem isAt_of {l : List K} {i : Nat} {t : K} (h : l[i]? = some t) (s : ByteArray) : isAt l i s = Mx.isP t s := by simp [isAt, h]
theorem isAt_out {l : List K} {i : Nat} (h : l.length ≤ i) (s : ByteArray) : isAt l i s = false := by simp [isAt, List.getElem?_eq_none h]

/-- One step of a list of parameters, by places. -/
theorem plist_at {l : List K} {i : Nat} {t : K} (ps : List ByteArray) (h : l[i]? = some t) : Mx.plist ps (l.drop i) =
    if parGood ps t then (if isAt l (i + 1) Mx.RP then some (parPs ps t, Mx.isP t Mx.EL, l.drop (i + 2)) else if isAt l (i + 1) Mx.CM && !Mx.isP t Mx.EL then Mx.plist (parPs ps t) (l.drop (i + 2)) else none) else none := by
  rw [drop_cons_of h]
  cases hb : l[i + 1]? with
  | some b =>
    rw [drop_cons_of hb, plist_two, isAt_of hb, isAt_of hb]
  | none =>
    have hl : l.length ≤ i + 1 := List.getElem?_eq_none_iff.1 hb
    rw [isAt_out hl, isAt_out hl, List.drop_eq_nil_of_le hl]
    simp [Mx.plist]

theorem isAt_lt {l : List K} {i : Nat} {s : ByteArray} (h : isAt l i s = true) : i < l.length := by
  rcases Nat.lt_or_ge i l.length with h' | h'
  · exact h'
  · rw [isAt_out h'] at h; cases h
theorem drop_len {l : List K} {k : Nat} (h : k + 1 < l.length) : (l.length : Int) - (l.drop (k + 2)).length = ((k + 2 : Nat) : Int) := by
  rw [List.length_drop]; omega
theorem row_len {w : World} {base e sz n m c : Nat} {a : Option Addr} {xs : List Value} (h : w.ownsRow base e sz (.slice a m c) n xs) : m = n := by
  rcases h.2 with ⟨h', h0⟩ | ⟨g, cap, cur, h', _⟩
  · injection h' with _ h1 _; omega
  · injection h' with _ h1 _

def RParPost (w : World) (res : List ByteArray × Bool × Int) (e : Ending) (w' : World) : Prop :=
  ∃ pv, e = .returned (.tuple #[pv, .bool res.2.1, .int .i64 res.2.2]) ∧ w'.ownsRow w.heap.size 9 1 pv res.1.length (strCells res.1) ∧ Below w.heap.size w w'

theorem strCells_get {ps : List ByteArray} {k : Nat} {s : ByteArray} (h : ps[k]? = some s) : (strCells ps)[k]? = some (.string s) := by
  simp [strCells, h]

set_option maxRecDepth 100000 in
set_option maxHeartbeats 4000000 in
theorem rparams_any (v : Value) (l : List K) (w : World) (hv : Ks w v l) (hl : l.length * 56 ≤ 140737488355328) :
    Calls Tryd.prog 25 #[v] w (RParPost w (Mx.rpar l)) := by
  obtain ⟨i0, hi, hz0, hz1, hz2⟩ := info_parts infoStr
  obtain ⟨res, hres⟩ : ∃ res, res = Mx.rpar l := ⟨_, rfl⟩
  rw [← hres]
  obtain ⟨ad, cap, rfl, hc1, hc2, hc3⟩ := id hv
  have HV := Lib.hid hv
  have hlb : l.length ≤ 2513169434917 := by omega
  have HLB := Lib.hid hlb
  have ks0 := fun w1 h => rsign_at (.slice ad l.length cap) l 0 Mx.RP w1 h (by omega)
  cases hrp : isAt l 0 Mx.RP with
  | true =>
    rw [hrp] at ks0
    have HE := Lib.hid (show res = ([], false, 1) by rw [hres, Mx.rpar, hrp]; rfl)
    clear hres hc3 hv
    go_enter Tryd.func25, Tryd.ntmps25
    go_wp2_with fail
    refine (ks0 _ HV.out).mono ?_
    rintro e W1 ⟨rfl, hW⟩
    subst hW
    go_wp2_with fail
    refine bodyPost_ret (v := .tuple #[.slice none 0 0, .bool false, .int .i64 1]) (by simp [results, Tryd.results25, go_sem]) rfl ?_
    rw [HE.out]
    exact ⟨_, rfl, World.ownsRow_nil _ _ _ _, Below.refl _ _⟩
  | false =>
    rw [hrp] at ks0
    have HN := Lib.hid (show Mx.plist [] l = none → res = ([], false, -1) by intro h; rw [hres, Mx.rpar, hrp, h]; rfl)
    have HS := Lib.hid (show ∀ ps va r, Mx.plist [] l = some (ps, va, r) → res = (ps, va, (l.length : Int) - r.length) by intro ps va r h; rw [hres, Mx.rpar, hrp, h]; rfl)
    obtain ⟨n, hn⟩ : ∃ n, n = l.length := ⟨_, rfl⟩
    rw [← hn] at hc1 hlb ks0 HV HLB hl ⊢
    have Hn := Lib.hid hn
    have HC3 := Lib.hid hc3
    have hpl : Mx.plist [] l = Mx.plist [] (l.drop 0) := rfl
    have HP0 := Lib.hid hpl
    have HL := Lib.hid hl
    clear hres hc3 hv hn hpl hl hrp
    go_enter Tryd.func25, Tryd.ntmps25
    go_wp2_with fail
    refine (ks0 _ HV.out).mono ?_
    rintro e W1 ⟨rfl, hW⟩
    subst hW
    obtain ⟨W0, hW0⟩ : ∃ W0, W0 = W1 := ⟨_, rfl⟩
    go_wp2_with fail
    go_loopw [6, 7] (fun u i wr => ∃ (k : Nat) (ps : List ByteArray), i = .int .i64 k ∧ wr.ownsRow W1.heap.size 9 1 u ps.length (strCells ps) ∧ Below W1.heap.size W1 wr ∧ k ≤ n ∧ ps.length ≤ k ∧ Mx.plist [] l = Mx.plist ps (l.drop k)) (fun _ i _ => n - (intOf i).toNat)
    case atStart => exact ⟨0, [], rfl, World.ownsRow_nil _ _ _ _, Below.refl _ _, Nat.zero_le _, Nat.le_refl _, HP0.out⟩
    case round =>
      obtain ⟨k, ps, rfl, hrow, hB, hk, hps, hpl⟩ := hrel
      by_cases hlt : k < n
      · obtain ⟨t, ht⟩ : ∃ t, l[k]? = some t := ⟨_, List.getElem?_eq_getElem (by rw [← Hn.out]; exact hlt)⟩
        rw [plist_at ps ht] at hpl
        obtain ⟨g, o, hadr, ha⟩ := HC3.out k t ht
        subst hadr
        have hgl : g < W1.heap.size := lt_of_cell ha.1
        have e1 := isAt_of ht Mx.EL
        have hvr := HV.out.below hB
        have k1 := rsign_at _ l k Mx.EL wr hvr (by omega)
        have k2 := fun w1 h => rsign_at (.slice (some ⟨g, o, none⟩) n cap) l (k + 1) Mx.RP w1 h (by omega)
        have k3 := fun w1 h => rsign_at (.slice (some ⟨g, o, none⟩) n cap) l (k + 1) Mx.CM w1 h (by omega)
        rw [e1] at k1
        have y1 : (0 : Int) ≤ k := by omega
        have y2 : (k : Int) < n := by omega
        have y3 : IntKind.i64.wrap ((k : Int) + 1) = ((k + 1 : Nat) : Int) := by rw [IntWalk.i64_in _ (by omega)]; omega
        have y4 : IntKind.i64.wrap ((k : Int) + 2) = ((k + 2 : Nat) : Int) := by rw [IntWalk.i64_in _ (by omega)]; omega
        obtain ⟨q2, hq2⟩ : ∃ q, q = isAt l (k + 1) Mx.RP := ⟨_, rfl⟩
        obtain ⟨q3, hq3⟩ : ∃ q, q = isAt l (k + 1) Mx.CM := ⟨_, rfl⟩
        rw [← hq2] at k2
        rw [← hq3] at k3
        rw [← hq2, ← hq3] at hpl
        have HPL := Lib.hid hpl
        have HQ2 := Lib.hid hq2
        have HQ3 := Lib.hid hq3
        have HROW := Lib.hid hrow
        clear hpl hq2 hq3 e1 hrow
        cases hel : Mx.isP t Mx.EL with
        | true =>
          rw [hel] at k1
          have hgd : parGood ps t = true := by simp [parGood, hel]
          have hpp : parPs ps t = ps := by simp [parPs, hel]
          go_wp2_with fail
          refine k1.mono ?_
          rintro e W2 ⟨rfl, hW⟩
          subst hW
          go_wp2_with fail
          refine (k2 _ hvr).mono ?_
          rintro e W3 ⟨rfl, hW⟩
          subst hW
          cases q2 with
          | true =>
            have HE := Lib.hid (show res = (ps, true, (((k + 2 : Nat) : Int))) by
              have := HS.out ps true (l.drop (k + 2)) (by rw [HPL.out, hgd, hpp, hel]; rfl)
              rw [this, drop_len (isAt_lt HQ2.out.symm)])
            clear hgd hpp
            go_wp2_with fail
            refine bodyPost_ret (v := .tuple #[u6, .bool true, .int .i64 ((k + 2 : Nat) : Int)]) (by simp [results, Tryd.results25, go_sem]) rfl ?_
            rw [HE.out]
            exact ⟨_, rfl, HROW.out, hB⟩
          | false =>
            have HE := Lib.hid (show res = ([], false, -1) from HN.out (by rw [HPL.out, hgd, hel]; simp))
            clear hgd hpp
            go_wp2_with fail
            refine bodyPost_ret (v := .tuple #[.slice none 0 0, .bool false, .int .i64 (-1)]) (by simp [results, Tryd.results25, go_sem]) rfl ?_
            rw [HE.out]
            exact ⟨_, rfl, World.ownsRow_nil _ _ _ _, hB⟩
        | false =>
          rw [hel] at k1
          obtain ⟨kd, tx, tf, tfr, ten, tbl⟩ := t
          obtain ⟨a0, a1, -, -, -, -⟩ := ha.below hB hgl
          dsimp only at a0 a1
          by_cases hkd : kd = 1
          · subst hkd
            by_cases hva : tx = Mx.VA
            · have t2 : (tx.toList == [95, 95, 86, 65, 95, 65, 82, 71, 83, 95, 95]) = true := lit_yes hva
              have HE := Lib.hid (show res = ([], false, -1) from HN.out (by rw [HPL.out, show parGood ps ⟨1, tx, tf, tfr, ten, tbl⟩ = false by unfold parGood Mx.parOk; rw [hel]; simp [hva]]; rfl))
              clear hva
              go_wp2_with fail
              refine k1.mono ?_
              rintro e W2 ⟨rfl, hW⟩
              subst hW
              go_wp2_with fail
              refine bodyPost_ret (v := .tuple #[.slice none 0 0, .bool false, .int .i64 (-1)]) (by simp [results, Tryd.results25, go_sem]) rfl ?_
              rw [HE.out]
              exact ⟨_, rfl, World.ownsRow_nil _ _ _ _, hB⟩
            · have t2 : (tx.toList == [95, 95, 86, 65, 95, 65, 82, 71, 83, 95, 95]) = false := lit_no hva
              have hgd : parGood ps ⟨1, tx, tf, tfr, ten, tbl⟩ = !Mx.has ps tx := by simp [parGood, Mx.parOk, hel, hva]
              have hpp : parPs ps ⟨1, tx, tf, tfr, ten, tbl⟩ = ps ++ [tx] := by simp [parPs, hel]
              have HG := Lib.hid hgd
              have HPP := Lib.hid hpp
              have HEL := Lib.hid hel
              obtain ⟨pa, pm, pc, rfl⟩ := row_slice HROW.out
              obtain rfl := row_len HROW.out
              clear hva hgd hpp hel
              go_wp2_with fail
              refine k1.mono ?_
              rintro e W2 ⟨rfl, hW⟩
              subst hW
              go_wp2_with fail
              obtain ⟨m, hm⟩ : ∃ m, m = ps.length := ⟨_, rfl⟩
              rw [← hm] at HROW hps ⊢
              have Hm := Lib.hid hm
              clear hm a0 a1
              have hB0 := hB
              have HROW0 := HROW.out
              clear hB HROW hvr
              go_loopw [10] (fun i wx => ∃ j : Nat, i = .int .i64 j ∧ j ≤ m ∧ wx.ownsRow W1.heap.size 9 1 (.slice pa m pc) m (strCells ps) ∧ Below W1.heap.size W1 wx ∧ Mx.has (ps.take j) tx = false) (fun i _ => m - (intOf i).toNat)
              case atStart => exact ⟨0, rfl, Nat.zero_le _, HROW0, hB0, rfl⟩
              case round =>
                obtain ⟨j, rfl, hj, hrow, hB, hno⟩ := hrel
                by_cases hjm : j < m
                · obtain ⟨x, hx⟩ : ∃ x, ps[j]? = some x := ⟨_, List.getElem?_eq_getElem (by rw [← Hm.out]; exact hjm)⟩
                  obtain ⟨gp, pc', hev, hbg, hgl2⟩ := hrow.form (by omega)
                  injection hev with v1 v2 v3
                  subst v1 v3
                  have d0 := hrow.cells (g := gp) rfl j _ (strCells_get hx)
                  rw [add_none, Nat.zero_add] at d0
                  obtain ⟨b0, b1, -, -, -, -⟩ := ha.below hB hgl
                  dsimp only at b0 b1
                  have x1 : (0 : Int) ≤ j := by omega
                  have x2 : (j : Int) < m := by omega
                  have htk : Mx.has (ps.take (j + 1)) tx = (Mx.has (ps.take j) tx || decide (x = tx)) := by
                    rw [List.take_add_one, hx]; simp [Mx.has]
                  by_cases hxe : x = tx
                  · have t5 : (x.toList == tx.toList) = true := by rw [ba_beq]; exact decide_eq_true hxe
                    have hhas : Mx.has ps tx = true := by rw [Mx.has_iff, ← hxe]; exact List.mem_of_getElem? hx
                    have HE := Lib.hid (show res = ([], false, -1) from HN.out (by rw [HPL.out, HG.out, hhas]; rfl))
                    clear hxe hx htk hhas
                    go_wp2_with fail
                    go_quiet (fail)
                    go_wp2_with fail
                    refine bodyPost_ret (v := .tuple #[.slice none 0 0, .bool false, .int .i64 (-1)]) (by simp [results, Tryd.results25, go_sem]) rfl ?_
                    rw [HE.out]
                    exact ⟨_, rfl, World.ownsRow_nil _ _ _ _, below_drewN hB _⟩
                  · have t5 : (x.toList == tx.toList) = false := by rw [ba_beq]; exact decide_eq_false hxe
                    have hno2 : Mx.has (ps.take (j + 1)) tx = false := by rw [htk, hno]; simpa using hxe
                    have HNO := Lib.hid hno2
                    have HRW := Lib.hid hrow
                    clear hxe hx htk hno2 hno hrow
                    go_wp2_with fail
                    go_quiet (fail)
                    go_wp2_with fail
                    go_roundw
                    case rel => exact ⟨j + 1, by go_num, by omega, HRW.out, below_drewN hB _, HNO.out⟩
                    case measure => simp [intOf]; omega
                · have hhas : Mx.has ps tx = false := by rwa [List.take_of_length_le (by rw [← Hm.out]; omega)] at hno
                  have x2 : ¬ (j : Int) < m := by omega
                  obtain ⟨b0, b1, -, -, -, -⟩ := ha.below hB hgl
                  dsimp only at b0 b1
                  have hgd := HG.out
                  rw [hhas] at hgd
                  have hpl := HPL.out
                  rw [hgd, HPP.out, HEL.out] at hpl
                  simp only [Bool.not_false, if_true, Bool.and_true] at hpl
                  have HPL2 := Lib.hid hpl
                  have hrow0 := hrow
                  have hsB := hB.size
                  clear hhas hgd hpl hno hrow
                  go_wp2_with (at_builtin; refine wpList_append_own _ rfl _ _ 23 rfl W1.heap.size 9 i0 _ 1 16 Tryd.underlying23 hi hz0 hz1 hz2 rfl (by decide) _ _ _ rfl (hrow0.alloc _) ⟨wr.heap.size, 0, none⟩ 1 1 [.string tx] rfl rfl (cell_one_new _ _ _) ?qc3 ?qc4 ?qc5 ?qc6 ?_)
                  case qc3 => simp [Value.oneCell']
                  case qc4 => unfold maxLen; omega
                  case qc5 => have := HL.out; omega
                  case qc6 => first | omega | (simp; omega)
                  intro v' w1 hown hgrow hnil
                  have hBn : Below W1.heap.size W1 w1 := (hB.alloc hsB _).grown hgrow (by first | omega | (simp; omega)) (fun q hq => (hrow0.lt q hq).1)
                  have hvn := HV.out.below hBn
                  have hown2 : w1.ownsRow W1.heap.size 9 1 v' (ps ++ [tx]).length (strCells (ps ++ [tx])) := by
                    rw [strCells_append, List.length_append, ← Hm.out]; exact hown
                  have HOWN := Lib.hid hown2
                  clear hown hown2 hgrow hrow0
                  go_wp2_with fail
                  refine (k2 _ hvn).mono ?_
                  rintro e W2 ⟨rfl, hW⟩
                  subst hW
                  cases q2 with
                  | true =>
                    have HE := Lib.hid (show res = (ps ++ [tx], false, (((k + 2 : Nat) : Int))) by
                      have := HS.out (ps ++ [tx]) false (l.drop (k + 2)) HPL2.out
                      rw [this, drop_len (isAt_lt HQ2.out.symm)])
                    go_wp2_with fail
                    refine bodyPost_ret (v := .tuple #[v', .bool false, .int .i64 ((k + 2 : Nat) : Int)]) (by simp [results, Tryd.results25, go_sem]) rfl ?_
                    rw [HE.out]
                    exact ⟨_, rfl, HOWN.out, hBn⟩
                  | false =>
                    go_wp2_with fail
                    refine (k3 _ hvn).mono ?_
                    rintro e W3 ⟨rfl, hW⟩
                    subst hW
                    cases q3 with
                    | false =>
                      have HE := Lib.hid (show res = ([], false, -1) from HN.out HPL2.out)
                      go_wp2_with fail
                      refine bodyPost_ret (v := .tuple #[.slice none 0 0, .bool false, .int .i64 (-1)]) (by simp [results, Tryd.results25, go_sem]) rfl ?_
                      rw [HE.out]
                      exact ⟨_, rfl, World.ownsRow_nil _ _ _ _, hBn⟩
                    | true =>
                      have hlt2 := isAt_lt HQ3.out.symm
                      rw [← Hn.out] at hlt2
                      go_wp2_with fail
                      go_roundw
                      case rel => exact ⟨k + 2, ps ++ [tx], by go_num, HOWN.out, hBn, by omega, by rw [List.length_append, ← Hm.out]; simp; omega, HPL2.out⟩
                      case measure => simp [intOf]; omega
          · have t3 : (kd == 1) = false := by simpa using hkd
            have t4 : (kd != 1) = true := by simpa using hkd
            have HE := Lib.hid (show res = ([], false, -1) from HN.out (by rw [HPL.out]; simp [parGood, Mx.parOk, hel, hkd]))
            clear hkd
            go_wp2_with fail
            refine k1.mono ?_
            rintro e W2 ⟨rfl, hW⟩
            subst hW
            go_wp2_with fail
            refine bodyPost_ret (v := .tuple #[.slice none 0 0, .bool false, .int .i64 (-1)]) (by simp [results, Tryd.results25, go_sem]) rfl ?_
            rw [HE.out]
            exact ⟨_, rfl, World.ownsRow_nil _ _ _ _, hB⟩
      · have hkn : k = n := by omega
        have HE := Lib.hid (show res = ([], false, -1) from HN.out (by rw [hpl, List.drop_eq_nil_of_le (by rw [← Hn.out]; omega)]; rfl))
        have y2 : ¬ (k : Int) < n := by omega
        clear hpl
        go_wp2_with fail
        refine bodyPost_ret (v := .tuple #[.slice none 0 0, .bool false, .int .i64 (-1)]) (by simp [results, Tryd.results25, go_sem]) rfl ?_
        rw [HE.out]
        exact ⟨_, rfl, World.ownsRow_nil _ _ _ _, hB⟩
end Go.Proofs.YtfjbmenakcnadaaDoor
