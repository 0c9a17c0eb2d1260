/- What is proved: CondBoth answers true. -/
import Derived.Test.YtjmbchemdcmegaaLawA
namespace Go.Proofs.Ytjmbchemdcmegaa
open Go.RowKit
open Ct Ct.T

theorem CT.split {W : World} {ok : Nat → Prop} {b : Bool} {xs : List Value} {d r : T} (h : CT W ok b xs (d.app r)) : CT W ok b (xs.take (d.len * wid b)) d ∧ CT W ok b (xs.drop (d.len * wid b)) r := by
  obtain ⟨a, c, rfl, h1, h2⟩ := CT.parts _ _ _ _ h
  have hl := CT.length _ _ _ h1
  rw [← hl, List.take_left, List.drop_left]
  exact ⟨h1, h2⟩
/-- The first items of some. -/
theorem TS.front {W : World} {ok : Nat → Prop} {b : Bool} {ad : Option Addr} {n cap : Nat} {d r : T} (h : TS W ok b (.slice ad n cap) (d.app r)) : TS W ok b (.slice ad d.len cap) d := by
  obtain ⟨ad', cap', e, h1, h2, h3⟩ := h
  injection e with e1 e2 e3
  subst e1 e2 e3
  rw [len_app] at h1 h3
  refine ⟨_, _, rfl, by omega, h2, fun hn => ?_⟩
  obtain ⟨g, o, xs, e, hg, hlt, hc, hx⟩ := h3 (by omega)
  refine ⟨g, o, xs.take (d.len * wid b), e, hg, hlt, fun j u hj => hc j u ?_, hx.split.1⟩
  rw [List.getElem?_take] at hj
  split at hj
  · exact hj
  · cases hj
/-- The last ones. -/
theorem TS.back {W : World} {ok : Nat → Prop} {b : Bool} {g o n cap : Nat} {d r : T} (h : TS W ok b (.slice (some ⟨g, o, none⟩) n cap) (d.app r)) : TS W ok b (.slice (some ⟨g, o + d.len * wid b, none⟩) r.len (cap - d.len)) r := by
  obtain ⟨ad', cap', e, h1, h2, h3⟩ := h
  injection e with e1 e2 e3
  subst e1 e2 e3
  rw [len_app] at h1 h3
  refine ⟨_, _, rfl, by omega, by omega, fun hn => ?_⟩
  obtain ⟨g', o', xs, e, hg, hlt, hc, hx⟩ := h3 (by omega)
  injection e with e
  injection e with e1 e2
  subst e1 e2
  refine ⟨g, o + d.len * wid b, xs.drop (d.len * wid b), rfl, hg, hlt, fun j u hj => ?_, hx.split.2⟩
  rw [List.getElem?_drop] at hj
  have := hc _ u hj
  rwa [← Nat.add_assoc] at this

theorem parse_line (ks : List Int) : (Ct.parse ks).2.1 ≤ ks.length := by
  unfold Ct.parse
  cases hg : Ct.go 0 ks (nil, []) with
  | inl j => have := go_left _ _ _ _ hg; simp only [fin]; omega
  | inr s =>
    obtain ⟨t, r⟩ := s
    cases r with
    | nil => exact Nat.zero_le _
    | cons f r =>
      obtain ⟨j, _, hu⟩ := Up_go ks ks 0 0 (nil, []) _ rfl rfl rfl hg
      obtain ⟨_, h2, _, h4, _⟩ := hu
      have h5 := Gle ks _ _ _ _ h2
      have h6 := Gle ks _ _ _ _ h4
      simp only [fin]; omega
theorem TS.cut {W : World} {ok : Nat → Prop} {b : Bool} {za : Option Addr} {n m cap : Nat} {d r : T} (h : TS W ok b (.slice za n cap) (d.app r)) (hm : m = r.len) : TS W ok b (.slice (Option.map (fun x => x.add (d.len * wid b)) za) m (cap - d.len)) r := by
  subst hm
  obtain ⟨ad, cap', e, h1, h2, h3⟩ := h.form
  injection e with e1 e2 e3
  subst e1 e2 e3
  rcases Nat.eq_zero_or_pos r.len with h0 | h0
  · rw [h0, len_zero h0]
    exact TS.nil_at _ _ _ _ _ (by omega)
  · obtain ⟨g, o, rfl, -⟩ := h3 (by rw [len_app]; omega)
    have := h.back
    simp only [Option.map_some, add_none]
    exact this

set_option maxRecDepth 100000 in
set_option maxHeartbeats 8000000 in
theorem both_any (v0 v1 : Value) (a b : List Int) (w : World) (h0 : IntsA w v0 a) (h1 : IntsA w v1 b) : Calls Try.prog 6 #[v0, v1] w (TruePost w) := by
  obtain ⟨ad0, c0, rfl, -, hm0⟩ := h0.1.len
  obtain ⟨ad1, c1, rfl, -, hm1⟩ := h1.1.len
  unfold maxLen at hm0 hm1
  obtain ⟨na, hna⟩ : ∃ n, n = a.length := ⟨_, rfl⟩
  obtain ⟨nb, hnb⟩ : ∃ n, n = b.length := ⟨_, rfl⟩
  rw [← hna] at h0 ⊢
  rw [← hnb] at h1 ⊢
  have Hna := Lib.hid hna
  have Hnb := Lib.hid hnb
  have H0 := Lib.hid h0
  have H1 := Lib.hid h1
  clear hna hnb h0 h1
  go_enter Try.func6, Try.ntmps6
  go_wp2_with fail
  refine (awake_any w).mono ?_
  rintro e w1 ⟨rfl, hB1⟩
  replace H0 := Lib.hid (H0.out.below hB1)
  replace H1 := Lib.hid (H1.out.below hB1)
  by_cases q1 : 200 < na
  · have z1 : (200 : Int) < na := by omega
    go_wp2_with fail
    go_ret
    exact ⟨rfl, hB1⟩
  · have z1 : ¬ ((200 : Int) < na) := by omega
    by_cases q2 : 200 < nb
    · have z2 : (200 : Int) < nb := by omega
      go_wp2_with fail
      go_ret
      exact ⟨rfl, hB1⟩
    · have z2 : ¬ ((200 : Int) < nb) := by omega
      go_wp2_with fail
      refine (lines_any _ a _ H0.out.1 (by rw [← Hna.out]; omega)).mono ?_
      rintro e w2 ⟨u2, rfl, hL, hB2⟩
      have HC := Lib.hid (parse_any u2 _ w2 hL (by rw [← Hna.out]; omega))
      replace H0 := Lib.hid (H0.out.below hB2)
      replace H1 := Lib.hid (H1.out.below hB2)
      replace hB2 := Below.then hB1 hB2
      clear hL hB1
      go_wp2_with fail
      refine HC.out.mono ?_
      rintro e w3 ⟨u3, rfl, hT3, hB3⟩
      replace H0 := Lib.hid (H0.out.below hB3)
      replace H1 := Lib.hid (H1.out.below hB3)
      replace hB3 := Below.then hB2 hB3
      have HT3 := Lib.hid hT3
      clear hT3 HC hB2
      go_wp2_with fail
      refine (lines_any _ b _ H1.out.1 (by rw [← Hnb.out]; omega)).mono ?_
      rintro e w4 ⟨u4, rfl, hL, hB4⟩
      have HC := Lib.hid (parse_any u4 _ w4 hL (by rw [← Hnb.out]; omega))
      replace H0 := Lib.hid (H0.out.below hB4)
      replace H1 := Lib.hid (H1.out.below hB4)
      replace HT3 := Lib.hid (HT3.out.below hB4)
      replace hB4 := Below.then hB3 hB4
      clear hL hB3
      go_wp2_with fail
      refine HC.out.mono ?_
      rintro e w5 ⟨u5, rfl, hT5, hB5⟩
      replace H0 := Lib.hid (H0.out.below hB5)
      replace H1 := Lib.hid (H1.out.below hB5)
      replace HT3 := Lib.hid (HT3.out.below hB5)
      replace hB5 := Below.then hB4 hB5
      have HT5 := Lib.hid hT5
      clear hT5 HC hB4
      have hBe : Below w5.heap.size w5 (w5.alloc (.cells #[] 3)) := (Below.refl _ w5).alloc (Nat.le_refl _) _
      have hre := row_empty w5
      go_wp2_with (first
        | (at_builtin; refine wpList_append_args rfl _ _ rfl w5.heap.size (.slice (some ⟨w5.heap.size, 0, none⟩) 0 0) 0 [] rfl hre (.slice ad0 na c0) a rfl (H0.out.below hBe) (by rw [← Hna.out]; omega) (by simp) ?_; intro x6 w6 hr6 hg6; have hB6 := hBe.grown hg6 (by simp) (by intro k e; simp [Value.ownBlock] at e; omega))
        | (at_builtin; refine wpList_append_args rfl _ _ rfl w5.heap.size x6 _ _ rfl hr6 (.slice ad1 nb c1) b rfl (H1.out.below hB6) (by rw [← Hna.out, ← Hnb.out]; omega) hB6.size ?_; intro x7 w7 hr7 hg7; have hB7 := hB6.grown hg7 hB6.size (fun k e => (hr6.lt k e).1)))
      rw [List.nil_append] at hr7
      have hI7 := Ints.row hr7
      have hl7 : (a ++ b).length ≤ 400 := by rw [List.length_append, ← Hna.out, ← Hnb.out]; omega
      refine (lines_any _ (a ++ b) _ hI7 (by omega)).mono ?_
      rintro e w8 ⟨u8, rfl, hL, hB8⟩
      replace hB8 := Below.then hB7 hB8
      replace HT3 := Lib.hid (HT3.out.below hB8)
      replace HT5 := Lib.hid (HT5.out.below hB8)
      replace hB8 := Below.then hB5 hB8
      have HC := Lib.hid (parse_any u8 _ w8 hL (by omega))
      clear hL hB5 hB7 hB6 hBe hre hr6 hr7 hg6 hg7 hI7 hl7
      go_wp2_with fail
      refine HC.out.mono ?_
      rintro e w9 ⟨u9, rfl, hT9, hB9⟩
      replace HT3 := Lib.hid (HT3.out.below hB9)
      replace HT5 := Lib.hid (HT5.out.below hB9)
      replace hB9 := Below.then hB8 hB9
      have HT9 := Lib.hid hT9
      clear hT9 HC hB8 H0 H1
      have hok : (Ct.parse a).2.2 = 0 → ((Ct.parse b).2.2 = 0 → Ct.parse (a ++ b) = ((Ct.parse a).1.app (shb na true (Ct.parse b).1), 0, 0)) ∧ ((Ct.parse b).2.2 ≠ 0 → Ct.parse (a ++ b) = (nil, (Ct.parse b).2.1 + na, (Ct.parse b).2.2)) := fun h => by
        obtain ⟨x, hx1, hx2⟩ := parse_ok h
        obtain ⟨k1, k2⟩ := parse_both a b x hx1
        rw [← Hna.out] at k1 k2
        refine ⟨fun hb => ?_, k2⟩
        obtain ⟨y, hy1, hy2⟩ := k1 hb
        rw [hy2, hy1, hx2]
      have hfl := flat_parse (ks := b)
      have hil := parse_line b
      rw [← Hnb.out] at hil
      rw [← Hnb.out] at hfl
      obtain ⟨ra, hra⟩ : ∃ r, r = Ct.parse a := ⟨_, rfl⟩
      obtain ⟨rb, hrb⟩ : ∃ r, r = Ct.parse b := ⟨_, rfl⟩
      obtain ⟨rc, hrc⟩ : ∃ r, r = Ct.parse (a ++ b) := ⟨_, rfl⟩
      rw [← hrc, ← hra, ← hrb] at hok
      rw [← hrb] at hfl HT5 hil
      rw [← hra] at HT3
      rw [← hrc] at HT9
      rw [← hra, ← hrb, ← hrc]
      obtain ⟨ta, ia, ea⟩ := ra
      obtain ⟨tb, ib, eb⟩ := rb
      obtain ⟨tc, ic, ec⟩ := rc
      dsimp only at hok hfl HT5 HT3 HT9 hil ⊢
      have Hil := Lib.hid hil
      clear hra hrb hrc hil
      by_cases p1 : ea = 0
      · obtain ⟨k1, k2⟩ := hok p1
        subst p1
        by_cases p2 : eb = 0
        · have hk := k1 p2
          simp only [Prod.mk.injEq] at hk
          obtain ⟨rfl, rfl, rfl⟩ := hk
          have hf2 := hfl p2
          subst p2
          obtain ⟨xa, xc, hxa, x1, x2, x3⟩ := HT3.out.form
          obtain ⟨ya, yc, hya, y1, y2, y3⟩ := HT5.out.form
          obtain ⟨za, zc, hza, zz1, zz2, zz3⟩ := HT9.out.form
          rw [len_app, len_shb] at hza zz1 zz3
          subst hxa hya hza
          obtain ⟨lx, hlx⟩ : ∃ n, n = ta.len := ⟨_, rfl⟩
          obtain ⟨ly, hly⟩ : ∃ n, n = tb.len := ⟨_, rfl⟩
          rw [← hlx] at HT3 HT9 x1 x3 zz1 zz3 ⊢
          rw [← hly] at HT5 HT9 y1 y3 zz1 zz3 ⊢
          unfold maxLen at x2 y2 zz2
          have Hlx := Lib.hid hlx
          have Hly := Lib.hid hly
          clear hlx hly hok hfl k1 k2
          have e1 : IntKind.i64.wrap ((lx : Int) + ly) = (lx : Int) + ly := IntWalk.i64_in _ (by omega)
          have e2 : (0 : Int) ≤ lx := by omega
          have e3 : (lx : Int) ≤ (lx : Int) + ly := by omega
          have e4 : (lx : Int) + ly ≤ zc := by omega
          have e5 : (lx : Int) ≤ zc := by omega
          have hZ2 : Tr w9 (.slice (Option.map (fun x => x.add (lx * 3)) za) ly (zc - lx)) (shb na true tb) := by
            have := TS.cut HT9.out (m := ly) (by rw [len_shb]; exact Hly.out)
            rw [← Hlx.out] at this
            exact this
          have hZ1 : ly = 0 → Tr w9 (.slice za 0 0) (shb na true tb) := fun h => by
            have : shb na true tb = nil := len_zero (by rw [len_shb, ← Hly.out, h])
            rw [this]
            exact TS.nil_at _ _ _ _ _ (by unfold maxLen; omega)
          have hZ3 : Tr w9 (.slice za lx zc) ta := by
            have := TS.front HT9.out
            rw [← Hlx.out] at this
            exact this
          have hlb : (flat true (shb na true tb)).length = nb := by rw [flat_shb, hf2, List.length_map, List.length_range']
          have HZ1 := Lib.hid hZ1
          have HZ2 := Lib.hid hZ2
          have HZ3 := Lib.hid hZ3
          have HLb := Lib.hid hlb
          have HF2 := Lib.hid hf2
          clear hZ1 hZ2 hZ3 hlb hf2
          rcases (show zc = lx ∨ ¬ (lx = zc) by omega) with rfl | hzc
          all_goals
            go_wp2_with fail
            refine Calls.mono (flat_any (shb na true tb) _ w9 (by first | exact HZ2.out | exact HZ1.out (by omega)) (by rw [HLb.out]; omega)) ?_
            rintro e w10 ⟨v10, rfl, hI10, hB10⟩
            replace HT3 := Lib.hid (HT3.out.below hB10)
            replace HT5 := Lib.hid (HT5.out.below hB10)
            replace HZ3 := Lib.hid (HZ3.out.below hB10)
            replace hB10 := Below.then hB9 hB10
            have HI10 := Lib.hid hI10
            clear hI10 hB9
            go_wp2_with fail
            have HF := Lib.hid (flat_any tb _ w10 HT5.out (by rw [HF2.out, List.length_range']; omega))
            refine HF.out.mono ?_
            rintro e w11 ⟨v11, rfl, hI11, hB11⟩
            clear HF
            replace HT3 := Lib.hid (HT3.out.below hB11)
            replace HZ3 := Lib.hid (HZ3.out.below hB11)
            replace HI10 := Lib.hid (HI10.out.below hB11)
            replace hB11 := Below.then hB10 hB11
            clear hB10 HT5 HT9
            rw [HF2.out] at hI11
            have hI10 := HI10.out
            rw [flat_shb, HF2.out] at hI10
            obtain ⟨ad2, cap2, rfl, i1, i2, i3⟩ := hI10
            obtain ⟨ad3, cap3, rfl, j1, j2, j3⟩ := hI11
            rw [List.length_map, List.length_map, List.length_range'] at i1 i3 ⊢
            rw [List.length_map, List.length_range'] at j1 j3 ⊢
            unfold maxLen at i2 j2
            have I3 := Lib.hid i3
            have J3 := Lib.hid j3
            clear i3 j3 HI10
            go_wp2_with fail
            go_loopw [17] (fun i wr => ∃ k : Nat, i = .int .i64 k ∧ k ≤ nb ∧ Below w11.heap.size w11 wr) (fun i _ => nb - (intOf i).toNat)
            case atStart => exact ⟨0, rfl, Nat.zero_le _, Below.refl _ _⟩
            case round =>
              obtain ⟨k, rfl, hk, hB⟩ := hrel
              by_cases hlt : k < nb
              · obtain ⟨g2, o2, rfl, hg2, hc2⟩ := I3.out (by omega)
                obtain ⟨g3, o3, rfl, hg3, hc3⟩ := J3.out (by omega)
                have hx2 := (hB.cell (p := ⟨g2, o2 + k, none⟩) hg2).trans (hc2 k ((k : Int) + na) (by rw [List.getElem?_map, List.getElem?_map, List.getElem?_range' hlt]; simp))
                have hx3 := (hB.cell (p := ⟨g3, o3 + k, none⟩) hg3).trans (hc3 k (k : Int) (by rw [List.getElem?_map, List.getElem?_range' hlt]; simp))
                have y1 : (0 : Int) ≤ k := by omega
                have y2 : (k : Int) < nb := by omega
                have y3 : IntKind.i64.wrap ((k : Int) + na) = (k : Int) + na := IntWalk.i64_in _ (by omega)
                clear hc2 hc3
                go_wp2_with fail
                go_quiet (fail)
                go_wp2_with fail
                go_roundw
                case rel => exact ⟨k + 1, by go_num, hlt, below_drewN hB _⟩
                case measure => simp [intOf]; omega
              · have : k = nb := by omega
                subst this
                go_wp2_with fail
                refine (rsame_any ta _ _ _ (HZ3.out.below hB) (HT3.out.below hB)).mono ?_
                rintro e w13 ⟨rfl, hB13⟩
                have HB13 := Lib.hid (Below.then (Below.then hB11 hB) hB13)
                clear hB13 hB hB11
                go_wp2_with fail
                go_ret
                exact ⟨rfl, HB13.out⟩
        · have hk := k2 p2
          simp only [Prod.mk.injEq] at hk
          obtain ⟨rfl, rfl, rfl⟩ := hk
          obtain ⟨za, zc, rfl, -⟩ := HT9.out.form
          simp only [T.len]
          have y1 : ((ec : Int) == 0) = false := by simp; omega
          have y1' : ((ec : Int) != 0) = true := by simp; omega
          have e1 : IntKind.i64.wrap ((ib : Int) + na) = (ib : Int) + na := IntWalk.i64_in _ (by have := Hil.out; omega)
          clear hok hfl k1 k2
          go_wp2_with fail
          go_ret
          exact ⟨rfl, hB9⟩
      · have y1 : ((ea : Int) == 0) = false := by simp; omega
        have y1' : ((ea : Int) != 0) = true := by simp; omega
        clear hok hfl
        go_wp2_with fail
        go_ret
        exact ⟨rfl, hB9⟩
end Go.Proofs.Ytjmbchemdcmegaa
