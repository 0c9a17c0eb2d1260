/- What is proved: SpliceWhere answers true, in whatever memory. -/
import Derived.Test.YtenlbeagmaehlaaLaw1
namespace Go.Proofs.Ytenlbeagmaehlaa
open Go.RowKit Go.Shelf

theorem Chars.part {W : World} {gb o n cap : Nat} {l : List Sp.Ch} (h : Chars W (.slice (some ⟨gb, o, none⟩) n cap) l) (a b : Nat) (hab : a ≤ b) (hb : b ≤ l.length) :
    Chars W (.slice (some ⟨gb, o + a * 2, none⟩) (b - a) (cap - a)) ((l.drop a).take (b - a)) := by
  obtain ⟨ad, cap', e, h1, h2, h3⟩ := h
  injection e with e1 e2 e3
  subst e1 e2 e3
  have hl : ((l.drop a).take (b - a)).length = b - a := by rw [List.length_take, List.length_drop]; omega
  refine ⟨_, _, by rw [hl], by rw [hl]; omega, by omega, fun i x hx => ?_⟩
  rw [List.getElem?_take] at hx
  split at hx
  · rw [List.getElem?_drop] at hx
    obtain ⟨g', o', e, c0, c1⟩ := h3 (a + i) x hx
    injection e with e
    injection e with e4 e5
    subst e4 e5
    rw [show o + (a + i) * 2 = o + a * 2 + i * 2 by omega] at c0 c1
    exact ⟨_, _, rfl, c0, c1⟩
  · cases hx

set_option maxRecDepth 100000 in
set_option maxHeartbeats 1000000 in
theorem where_any (s : ByteArray) (hm : s.size ≤ maxLen) (f g : Int) (w : World) (hG : Glob w) : Calls Try.prog 7 #[.string s, .int .i64 f, .int .i64 g] w (TruePost w) := by
  unfold maxLen at hm
  have HG := Lib.hid hG
  clear hG
  by_cases hs : s.size ≤ 2000
  · have hle := Sp.left_le 0 s.data.toList
    rw [size_list] at hle
    obtain ⟨l, hl⟩ : ∃ l, l = Sp.left 0 s.data.toList := ⟨_, rfl⟩
    rw [← hl] at hle
    obtain ⟨n, hn⟩ : ∃ n, n = l.length := ⟨_, rfl⟩
    have Hl := Lib.hid hl
    have Hn := Lib.hid hn
    rw [← hn] at hle
    clear hl hn
    have HX : Hid (∀ (k : Nat) x, l[k]? = some x → ∃ h : x.2 < s.size, s[x.2] = x.1) := Lib.hid (by
      intro k x hx
      rw [Hl.out] at hx
      have h1 := Sp.left_lt (List.mem_of_getElem? hx)
      have h2 := (Sp.left_at _ _ _ (List.mem_of_getElem? hx)).2
      rw [size_list] at h1
      refine ⟨by omega, ?_⟩
      rw [Nat.sub_zero, List.getElem?_eq_getElem (by rw [size_list]; omega)] at h2
      injection h2)
    have HR : Hid (∀ (j k : Nat) x y, j < k → l[j]? = some x → l[k]? = some y → x.2 < y.2) := Lib.hid (by
      intro j k x y hjk hx hy
      have := Sp.left_rise s.data.toList 0
      rw [← Hl.out] at this
      obtain ⟨h1, rfl⟩ := List.getElem?_eq_some_iff.1 hx
      obtain ⟨h2, rfl⟩ := List.getElem?_eq_some_iff.1 hy
      exact List.pairwise_iff_getElem.1 this j k h1 h2 hjk)
    go_enter Try.func7, Try.ntmps7
    go_wp2_with fail
    refine (awake_any _ HG.out).mono ?_
    rintro e w1 ⟨rfl, hB1⟩
    go_wp2_with fail
    refine (join_any s (by omega) _ (HG.out.later hB1)).mono ?_
    rintro e w2 ⟨v, rfl, hv, hB2⟩
    rw [← Hl.out] at hv
    obtain ⟨ad, cap, rfl, h1, h2, -⟩ := id hv
    rw [← Hn.out] at hv h1 ⊢
    unfold maxLen at h2
    replace hB2 := Below.then hB1 hB2
    clear hB1
    have HC : Hid (∀ k x W, l[k]? = some x → Below w2.heap.size w2 W → ∃ gb o, ad = some ⟨gb, o, none⟩ ∧ W.cell? ⟨gb, o + k * 2, none⟩ = some (.int .u8 x.1.toNat) ∧ W.cell? ⟨gb, o + k * 2 + 1, none⟩ = some (.int .i64 x.2)) := Lib.hid (by
      intro k x W hx hB
      obtain ⟨gb, o, rfl, _, _, _, hg, hc⟩ := hv.cells (by have := (List.getElem?_eq_some_iff.1 hx).1; omega)
      exact ⟨gb, o, rfl, (hB.cell (p := ⟨gb, o + k * 2, none⟩) hg).trans (hc k x hx).1, (hB.cell (p := ⟨gb, o + k * 2 + 1, none⟩) hg).trans (hc k x hx).2⟩)
    have HV := Lib.hid hv
    have HB2 := Lib.hid hB2
    clear hv hB2
    have hs0 : decide (2000 < s.size) = false := decide_eq_false (by omega)
    go_wp2_with fail
    go_loopw [9, 10] (fun z i wr => ∃ (k : Nat) (q : Int), i = .int .i64 k ∧ z = .int .i64 q ∧ k ≤ n ∧ (∀ j x, k ≤ j → l[j]? = some x → q < x.2) ∧ Below w2.heap.size w2 wr) (fun _ i _ => n - (intOf i).toNat)
    case atStart => exact ⟨0, -1, rfl, rfl, Nat.zero_le _, fun j x _ _ => by omega, Below.refl _ _⟩
    case round =>
      obtain ⟨k, q, rfl, rfl, hk, hq, hB⟩ := hrel
      have HQ := Lib.hid hq
      clear hq
      by_cases hlt : k < n
      · have hkl : k < l.length := by rw [← Hn.out]; exact hlt
        obtain ⟨x, hx⟩ : ∃ x, l[k]? = some x := ⟨_, List.getElem?_eq_getElem hkl⟩
        obtain ⟨gb, o, rfl, c0, c1⟩ := HC.out k x wr hx hB
        obtain ⟨hxs, hxe⟩ := HX.out k x hx
        have hqx := HQ.out k x (Nat.le_refl _) hx
        have b1 : decide ((x.2 : Int) ≤ q) = false := decide_eq_false (by omega)
        have b2 : decide (s.size ≤ x.2) = false := decide_eq_false (by omega)
        have b3 : ((s[x.2].toNat : Int) != (x.1.toNat : Int)) = false := by rw [hxe]; simp
        have b4 : (0 : Int) ≤ x.2 := by omega
        have b5 : (x.2 : Int) < s.size := by omega
        have z1 : (0 : Int) ≤ k := by omega
        have z2 : (k : Int) < n := by omega
        have HXX := Lib.hid hx
        clear hx hxe hkl
        go_wp2_with fail
        go_quiet (fail)
        go_wp2_with fail
        go_roundw
        case rel => exact ⟨k + 1, x.2, by go_num, rfl, by omega, fun j y hj hy => by have := HR.out k j x y (by omega) HXX.out hy; omega, below_drewN hB _⟩
        case measure => simp [intOf]; omega
      · have hv := HV.out.below hB
        replace hB := Below.then HB2.out hB
        go_wp2_with fail
        by_cases hw : f < 0 ∨ g < f ∨ ((Sp.left 0 s.data.toList).length : Int) < g
        · refine (span_any s (by omega) f g _ (HG.out.later hB)).mono ?_
          rintro e w3 ⟨rfl, hB3⟩
          rw [span_wrong hw]
          replace hB3 := Below.then hB hB3
          clear hB hw hv
          go_wp2_with fail
          go_ret
          exact ⟨rfl, hB3⟩
        · rw [← Hl.out, ← Hn.out] at hw
          have h3 : 0 ≤ f := by omega
          have h4 : f ≤ g := by omega
          obtain ⟨a, rfl⟩ := Int.eq_ofNat_of_zero_le h3
          obtain ⟨b, rfl⟩ := Int.eq_ofNat_of_zero_le (Int.le_trans h3 h4)
          have hb : b ≤ n := by omega
          have hab : a ≤ b := by omega
          clear hw h3 h4
          refine (span_any s (by omega) a b _ (HG.out.later hB)).mono ?_
          rintro e w3 ⟨rfl, hB3⟩
          replace hv := hv.below hB3
          replace hB3 := Below.then hB hB3
          clear hB
          by_cases he : a = b
          · subst he
            rw [span_none (by rw [← Hl.out, ← Hn.out]; exact hb)]
            clear hv
            go_wp2_with fail
            go_ret
            exact ⟨rfl, hB3⟩
          · have hlt2 : a < b := by omega
            rw [span_some hlt2 (by rw [← Hl.out, ← Hn.out]; exact hb)]
            obtain ⟨x, hx⟩ : ∃ x, l[a]? = some x := ⟨_, List.getElem?_eq_getElem (by rw [← Hn.out]; omega)⟩
            obtain ⟨y, hy⟩ : ∃ y, l[b - 1]? = some y := ⟨_, List.getElem?_eq_getElem (by rw [← Hn.out]; omega)⟩
            obtain ⟨hxs, -⟩ := HX.out _ x hx
            obtain ⟨hys, -⟩ := HX.out _ y hy
            rw [placeOf_some (by rw [← Hl.out]; exact hx), placeOf_some (by rw [← Hl.out]; exact hy)]
            obtain ⟨hxy, hsp⟩ := Sp.left_span s.data.toList a (b - 1) x y (by omega) (by rw [← Hl.out]; exact hx) (by rw [← Hl.out]; exact hy)
            rw [← Hl.out] at hsp
            rw [show b - 1 + 1 - a = b - a by omega] at hsp
            obtain ⟨gb, o, rfl, -⟩ := hv.cells (by rw [← Hn.out]; omega)
            have HSp := Lib.hid hsp
            have t1 : ((a : Int) == (b : Int)) = false := beq_eq_false_iff_ne.2 (by omega)
            have t2 : decide ((y.2 : Int) + 1 < (x.2 : Int)) = false := decide_eq_false (by omega)
            have t3 : decide ((s.size : Int) < (y.2 : Int) + 1) = false := decide_eq_false (by omega)
            have t4 : (0 : Int) ≤ x.2 := by omega
            have t5 : (x.2 : Int) ≤ (y.2 : Int) + 1 := by omega
            have t6 : (y.2 : Int) + 1 ≤ s.size := by omega
            have t7 : (0 : Int) ≤ a := by omega
            have t8 : (a : Int) ≤ b := by omega
            have t9 : (b : Int) ≤ n := by omega
            have t10 : (b : Int) ≤ cap := by omega
            have HVV := Lib.hid hv
            clear he hx hy hsp hv
            go_wp2_with fail
            obtain ⟨E, hE⟩ : ∃ E, E = s.extract x.2 (y.2 + 1) := ⟨_, rfl⟩
            have hsz : E.size ≤ 2000 := by rw [hE, ByteArray.size_extract]; omega
            obtain ⟨r, hr⟩ : ∃ r, r = Sp.left 0 E.data.toList := ⟨_, rfl⟩
            have hll := Sp.left_le 0 E.data.toList
            rw [size_list, ← hr] at hll
            have hrr : r.map Prod.fst = ((l.drop a).take (b - a)).map Prod.fst := by rw [hr, hE, Lib.extract_data]; exact HSp.out
            rw [← hE]
            have Hr := Lib.hid hr
            have Hrr := Lib.hid hrr
            clear hE hr hrr
            refine (join_any E (Nat.le_trans hsz (by decide)) w3 (HG.out.later hB3)).mono ?_
            rintro e w4 ⟨u, rfl, hu, hB4⟩
            rw [← Hr.out] at hu
            have hv := HVV.out.below hB4
            replace hB4 := Below.then hB3 hB4
            clear hB3
            obtain ⟨ad2, cap2, rfl, -⟩ := id hu
            go_wp2_with fail
            refine (text_any _ r w4 hu (Nat.le_trans hll (Nat.le_trans hsz (by decide)))).mono ?_
            rintro e w5 ⟨rfl, hB5⟩
            replace hv := hv.below hB5
            replace hB5 := Below.then hB4 hB5
            clear hB4 hu
            rw [Hrr.out]
            obtain ⟨m, hm2⟩ : ∃ m, m = (((l.drop a).take (b - a)).map Prod.fst) := ⟨_, rfl⟩
            rw [← hm2]
            have Hm := Lib.hid hm2
            clear hm2
            go_wp2_with fail
            have hpart := hv.part a b hab (by rw [← Hn.out]; exact hb)
            refine (text_any _ _ w5 hpart (by rw [List.length_take, List.length_drop, ← Hn.out]; omega)).mono ?_
            rintro e w6 ⟨rfl, hB6⟩
            rw [← Hm.out]
            replace hB6 := Below.then hB5 hB6
            clear hB5 hv hpart
            go_wp2_with fail
            go_ret
            exact ⟨rfl, hB6⟩
  · go_enter Try.func7, Try.ntmps7
    go_wp2_with fail
    refine (awake_any _ HG.out).mono ?_
    rintro e w1 ⟨rfl, hB1⟩
    go_wp2_with fail
    go_ret
    exact ⟨rfl, hB1⟩
end Go.Proofs.Ytenlbeagmaehlaa
