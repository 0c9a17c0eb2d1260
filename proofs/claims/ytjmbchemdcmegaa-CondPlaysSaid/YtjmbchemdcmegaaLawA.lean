/- What is proved: CondPrefix and CondCovers answer true. -/
import Derived.Test.YtjmbchemdcmegaaAwake
import Derived.Laws.AppendOwnNone
namespace Go.Proofs.Ytjmbchemdcmegaa
open Go.RowKit
open Ct Ct.T

/-- A list of numbers that came in: nil, or with an address. -/
def IntsA (W : World) (v : Value) (l : List Int) : Prop := Ints W v l ∧ ((v = .slice none 0 0 ∧ l = []) ∨ ∃ a n c, v = .slice (some a) n c)
theorem IntsA.below {W W' : World} {v : Value} {l : List Int} (h : IntsA W v l) (hb : Below W.heap.size W W') : IntsA W' v l := ⟨h.1.below hb, h.2⟩
theorem intv_append (a b : List Int) : intv (a ++ b) = intv a ++ intv b := by simp [intv]
theorem intv_length (a : List Int) : (intv a).length = a.length := by simp [intv]
theorem intv_one (a : List Int) : ∀ u ∈ intv a, u.oneCell' = true := by
  intro u hu
  obtain ⟨x, _, rfl⟩ := List.mem_map.1 hu
  rfl
theorem Ints.len {W : World} {v : Value} {l : List Int} (h : Ints W v l) : ∃ ad c, v = .slice ad l.length c ∧ l.length ≤ c ∧ c ≤ maxLen := by
  obtain ⟨ad, c, h1, h2, h3, -⟩ := h; exact ⟨ad, c, h1, h2, h3⟩

theorem wpList_append_args {w : World} {ops : Array Oper} {rest : List Oper} {o : Oper} {a : Act} {Q : Exit → Act → World → Prop} (hgd : o.guard = none) (s x : Operand)
    (ho : o.op = .call { callee := .builtin .append, args := #[s, x], argTypes := #[22, 22] }) (base : Nat) (v : Value) (n : Nat) (l : List Int) (hs : a.eval s = v) (hown : w.ownsRow base 3 1 v n (intv l))
    (u : Value) (l2 : List Int) (hx : a.eval x = u) (hu : IntsA w u l2) (hn : n + l2.length ≤ 1000000) (hbase : base ≤ w.heap.size)
    (h : ∀ v' w', w'.ownsRow base 3 1 v' (n + l2.length) (intv (l ++ l2)) → w.grownBy w' v.ownBlock → wpList Try.prog ops Q rest (a.put o.dst v') w') : wpList Try.prog ops Q (o :: rest) a w := by
  obtain ⟨i0, hi, hz0, hz1, hz2⟩ := info_parts info3
  obtain ⟨hI, hc⟩ := hu
  rcases hc with ⟨rfl, rfl⟩ | ⟨ad, m, c, rfl⟩
  · refine wpList_append_own_none hgd s x 22 ho base 3 i0 1 Try.underlying22 hi v n (intv l) hs hown hx (h v w ?_ ⟨rfl, rfl, rfl, Nat.le_refl _, fun _ _ _ => rfl⟩)
    rw [List.append_nil]; exact hown
  · obtain ⟨ad', c', e, h1, h2, h3⟩ := hI
    injection e with e1 e2 e3
    subst e1 e2 e3
    refine wpList_append_own_at w hgd s x 22 ho base 3 i0 (.int .i64 0) 1 8 Try.underlying22 hi hz0 hz1 hz2 rfl (by decide) v n (intv l) hs hown ad l2.length c (intv l2) hx (by rw [intv_length, Nat.mul_one]) ?_ (intv_one _) (by unfold maxLen; omega) (by omega) hbase ?_
    · intro j q hj
      have hlt : j < l2.length := by have := (List.getElem?_eq_some_iff.1 hj).1; rwa [intv_length] at this
      obtain ⟨g, o, e, hg, hcell⟩ := h3 (by omega)
      injection e with e
      subst e
      rw [add_none]
      have := hcell j _ (List.getElem?_eq_getElem hlt)
      rw [this]
      rw [intv, List.getElem?_map, List.getElem?_eq_getElem hlt] at hj
      simpa using hj
    · intro v' w' hr hg _ _
      rw [← intv_append] at hr
      exact h v' w' hr hg

theorem Ints.row {W : World} {base n : Nat} {v : Value} {l : List Int} (h : W.ownsRow base 3 1 v n (intv l)) : Ints W v l := by
  have hl : n = l.length := by have := h.1; rw [intv_length] at this; omega
  subst hl
  exact Ints.of_row h

theorem row_empty (w : World) : (w.alloc (.cells #[] 3)).ownsRow w.heap.size 3 1 (.slice (some ⟨w.heap.size, 0, none⟩) 0 0) 0 (intv []) := World.ownsRow_made w #[] 0 (Nat.le_refl _) (Nat.zero_le _) rfl

set_option maxRecDepth 100000 in
set_option maxHeartbeats 8000000 in
theorem prefix_any (v0 v1 : Value) (a b : List Int) (w : World) (h0 : IntsA w v0 a) (h1 : IntsA w v1 b) : Calls Try.prog 8 #[v0, v1] w (TruePost w) := by
  obtain ⟨ad0, c0, rfl, -, hm0⟩ := h0.1.len
  obtain ⟨ad1, c1, rfl, -, hm1⟩ := h1.1.len
  unfold maxLen at hm0 hm1
  obtain ⟨na, hna⟩ : ∃ n, n = a.length := ⟨_, rfl⟩
  obtain ⟨nb, hnb⟩ : ∃ n, n = b.length := ⟨_, rfl⟩
  rw [← hna] at h0 ⊢
  rw [← hnb] at h1 ⊢
  have Hna := Lib.hid hna
  have Hnb := Lib.hid hnb
  have H0 := Lib.hid h0
  have H1 := Lib.hid h1
  clear hna hnb h0 h1
  go_enter Try.func8, Try.ntmps8
  go_wp2_with fail
  refine (awake_any w).mono ?_
  rintro e w1 ⟨rfl, hB1⟩
  replace H0 := Lib.hid (H0.out.below hB1)
  replace H1 := Lib.hid (H1.out.below hB1)
  by_cases q1 : 200 < na
  · have z1 : (200 : Int) < na := by omega
    go_wp2_with fail
    go_ret
    exact ⟨rfl, hB1⟩
  · have z1 : ¬ ((200 : Int) < na) := by omega
    by_cases q2 : 200 < nb
    · have z2 : (200 : Int) < nb := by omega
      go_wp2_with fail
      go_ret
      exact ⟨rfl, hB1⟩
    · have z2 : ¬ ((200 : Int) < nb) := by omega
      go_wp2_with fail
      refine (lines_any _ a _ H0.out.1 (by rw [← Hna.out]; omega)).mono ?_
      rintro e w2 ⟨u2, rfl, hL, hB2⟩
      have HC := Lib.hid (parse_any u2 _ w2 hL (by rw [← Hna.out]; omega))
      replace H0 := Lib.hid (H0.out.below hB2)
      replace H1 := Lib.hid (H1.out.below hB2)
      replace hB2 := Below.then hB1 hB2
      clear hL hB1
      go_wp2_with fail
      refine HC.out.mono ?_
      rintro e w3 ⟨u3, rfl, -, hB3⟩
      replace H0 := Lib.hid (H0.out.below hB3)
      replace H1 := Lib.hid (H1.out.below hB3)
      replace hB3 := Below.then hB2 hB3
      have hmore := parse_more a b
      obtain ⟨ra, hra⟩ : ∃ r, r = Ct.parse a := ⟨_, rfl⟩
      rw [← hra] at hmore ⊢
      obtain ⟨ta, ia, ea⟩ := ra
      dsimp only at hmore ⊢
      clear hra HC hB2
      have HM := Lib.hid hmore
      clear hmore
      have hBe : Below w3.heap.size w3 (w3.alloc (.cells #[] 3)) := (Below.refl _ w3).alloc (Nat.le_refl _) _
      have hre := row_empty w3
      go_wp2_with (first
        | (at_builtin; refine wpList_append_args rfl _ _ rfl w3.heap.size (.slice (some ⟨w3.heap.size, 0, none⟩) 0 0) 0 [] rfl hre (.slice ad0 na c0) a rfl (H0.out.below hBe) (by rw [← Hna.out]; omega) (by simp) ?_; intro x4 w4 hr4 hg4; have hB4 := hBe.grown hg4 (by simp) (by intro k e; simp [Value.ownBlock] at e; omega))
        | (at_builtin; refine wpList_append_args rfl _ _ rfl w3.heap.size x4 _ _ rfl hr4 (.slice ad1 nb c1) b rfl (H1.out.below hB4) (by rw [← Hna.out, ← Hnb.out]; omega) hB4.size ?_; intro x5 w5 hr5 hg5; have hB5 := hB4.grown hg5 hB4.size (fun k e => (hr4.lt k e).1)))
      rw [List.nil_append] at hr5
      have hI5 := Ints.row hr5
      have hl5 : (a ++ b).length ≤ 400 := by rw [List.length_append, ← Hna.out, ← Hnb.out]; omega
      refine (lines_any _ (a ++ b) _ hI5 (by omega)).mono ?_
      rintro e w6 ⟨u6, rfl, hL, hB6⟩
      replace hB6 := Below.then (Below.then hB3 hB5) hB6
      have HC := Lib.hid (parse_any u6 _ w6 hL (by omega))
      clear hL hB3 hB5 hB4 hBe hre hr4 hr5 hg4 hg5 hI5 hl5
      go_wp2_with fail
      refine HC.out.mono ?_
      rintro e w7 ⟨u7, rfl, -, hB7⟩
      replace hB7 := Below.then hB6 hB7
      obtain ⟨rb, hrb⟩ : ∃ r, r = Ct.parse (a ++ b) := ⟨_, rfl⟩
      rw [← hrb] at HM ⊢
      obtain ⟨tb, ib, eb⟩ := rb
      have hM := HM.out
      dsimp only at hM ⊢
      rw [← Hna.out] at hM
      obtain ⟨M1, M2⟩ := hM
      clear hrb HC hB6 HM
      by_cases p1 : ea = 50
      · obtain ⟨rfl, rfl⟩ := M1 p1
        subst p1
        clear M1 M2
        go_wp2_with fail
        go_ret
        exact ⟨rfl, hB7⟩
      · have y1 : ((ea : Int) == 50) = false := by simp; omega
        have y1' : ((ea : Int) != 50) = true := by simp; omega
        by_cases p2 : eb = 50
        · have y2 : ((ib : Int) ≥ na) := by have := M2 p1 p2; omega
          subst p2
          clear M1 M2
          go_wp2_with fail
          go_ret
          exact ⟨rfl, hB7⟩
        · have y2 : ((eb : Int) == 50) = false := by simp; omega
          have y2' : ((eb : Int) != 50) = true := by simp; omega
          clear M1 M2
          go_wp2_with fail
          go_ret
          exact ⟨rfl, hB7⟩

theorem parse_bad {ks : List Int} (h : (Ct.parse ks).2.2 ≠ 0) : (Ct.parse ks).1 = nil := by
  unfold Ct.parse at *
  cases hg : Ct.go 0 ks (nil, []) with
  | inl i => rfl
  | inr s =>
    obtain ⟨t, r⟩ := s
    cases r with
    | nil => rw [hg] at h; exact absurd rfl h
    | cons f r => rfl
theorem flat_parse {ks : List Int} (h : (Ct.parse ks).2.2 = 0) : flat true (Ct.parse ks).1 = List.range' 0 ks.length := by
  obtain ⟨t, h1, h2⟩ := parse_ok h
  rw [h2, flat_G ks t true 0 _ (Gparse h1), Nat.sub_zero]

set_option maxRecDepth 100000 in
set_option maxHeartbeats 8000000 in
theorem covers_any (v0 : Value) (a : List Int) (w : World) (h0 : IntsA w v0 a) : Calls Try.prog 4 #[v0] w (TruePost w) := by
  obtain ⟨ad0, c0, rfl, -, hm0⟩ := h0.1.len
  unfold maxLen at hm0
  obtain ⟨na, hna⟩ : ∃ n, n = a.length := ⟨_, rfl⟩
  rw [← hna] at h0 ⊢
  have Hna := Lib.hid hna
  have H0 := Lib.hid h0
  clear hna h0
  go_enter Try.func4, Try.ntmps4
  go_wp2_with fail
  refine (awake_any w).mono ?_
  rintro e w1 ⟨rfl, hB1⟩
  replace H0 := Lib.hid (H0.out.below hB1)
  by_cases q1 : 500 < na
  · have z1 : (500 : Int) < na := by omega
    go_wp2_with fail
    go_ret
    exact ⟨rfl, hB1⟩
  · have z1 : ¬ ((500 : Int) < na) := by omega
    go_wp2_with fail
    refine (lines_any _ a _ H0.out.1 (by rw [← Hna.out]; omega)).mono ?_
    rintro e w2 ⟨u2, rfl, hL, hB2⟩
    have HC := Lib.hid (parse_any u2 _ w2 hL (by rw [← Hna.out]; omega))
    replace hB2 := Below.then hB1 hB2
    clear hL hB1
    go_wp2_with fail
    refine HC.out.mono ?_
    rintro e w3 ⟨u3, rfl, hT, hB3⟩
    replace hB3 := Below.then hB2 hB3
    have hbad := parse_bad (ks := a)
    have hflat := flat_parse (ks := a)
    obtain ⟨ra, hra⟩ : ∃ r, r = Ct.parse a := ⟨_, rfl⟩
    rw [← hra] at hbad hflat hT ⊢
    obtain ⟨ta, ia, ea⟩ := ra
    dsimp only at hbad hflat hT ⊢
    rw [← Hna.out] at hflat
    clear hra HC hB2
    by_cases p1 : ea = 0
    · have hfl := hflat p1
      subst p1
      have HF := Lib.hid (flat_any ta u3 w3 hT (by rw [hfl, List.length_range']; omega))
      rw [hfl] at HF
      clear hbad hflat hT hfl
      go_wp2_with fail
      refine HF.out.mono ?_
      rintro e w4 ⟨v4, rfl, hI, hB4⟩
      replace hB4 := Below.then hB3 hB4
      obtain ⟨ad, cap, rfl, i1, i2, i3⟩ := hI
      rw [List.length_map, List.length_range'] at i1 i3 ⊢
      unfold maxLen at i2
      have I3 := Lib.hid i3
      clear i3 HF hB3
      go_wp2_with fail
      go_loop [8] (fun i => ∃ k : Nat, i = .int .i64 k ∧ k ≤ na) (fun i => na - (intOf i).toNat)
      case atStart => exact ⟨0, rfl, Nat.zero_le _⟩
      case round =>
        obtain ⟨k, rfl, hk⟩ := hrel
        by_cases hlt : k < na
        · obtain ⟨g, o, rfl, hg, hc⟩ := I3.out (by omega)
          have hx := hc k (k : Int) (by rw [List.getElem?_map, List.getElem?_range' hlt]; simp)
          clear hc
          go_wp2_with fail
          go_round
          case rel => exact ⟨k + 1, by go_num, hlt⟩
          case measure => simp [intOf]; omega
        · have : k = na := by omega
          subst this
          go_wp2_with fail
          go_ret
          exact ⟨rfl, hB4⟩
    · obtain rfl := hbad p1
      have y1 : ((ea : Int) == 0) = false := by simp; omega
      have y1' : ((ea : Int) != 0) = true := by simp; omega
      obtain ⟨ad, cap, rfl, -⟩ := hT.form
      simp only [T.len]
      simp only [T.len] at hT
      have HF := Lib.hid (flat_any nil _ w3 hT (by simp [flat]))
      clear hflat hT hbad
      go_wp2_with fail
      refine HF.out.mono ?_
      rintro e w4 ⟨v4, rfl, -, hB4⟩
      replace hB4 := Below.then hB3 hB4
      clear HF hB3
      go_wp2_with fail
      go_ret
      exact ⟨rfl, hB4⟩
end Go.Proofs.Ytjmbchemdcmegaa
