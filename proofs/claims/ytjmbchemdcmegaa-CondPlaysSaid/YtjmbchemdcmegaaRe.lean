/- What is proved: the document's Around, by the lines. -/
import Derived.Test.YtjmbchemdcmegaaRc
namespace Go.Proofs.Ytjmbchemdcmegaa
open Go.RowKit
open Ct Ct.T

theorem kd_of {ks : List Int} {i : Nat} {x : Int} (h : ks[i]? = some x) : kd ks i = x := by simp [kd, h]
theorem drop_more {ks : List Int} {k : Nat} {x : Int} (h : ks[k]? = some x) : ks.drop k = x :: ks.drop (k + 1) := by
  obtain ⟨h1, h2⟩ := List.getElem?_eq_some_iff.1 h
  rw [List.drop_eq_getElem_cons h1, h2]

theorem kind_cases (k : Int) : ((k == 2) = true ∨ ((k == 2) = false ∧ (k == 3) = true) ∨ ((k == 2) = false ∧ (k == 3) = false ∧ (k == 4) = true)) ∧ begins k = true ∧ parts k = false ∧ (k == 5) = false ∧ (k == 6) = false ∧ (k == 7) = false ∨
    begins k = false ∧ parts k = true ∧ (k == 7) = false ∧ ((k == 5) = true ∧ (k == 6) = false ∨ (k == 5) = false ∧ (k == 6) = true) ∨ begins k = false ∧ parts k = false ∧ (k == 5) = false ∧ (k == 6) = false ∧ (k == 7) = true ∨ plain k = true ∧ begins k = false ∧ parts k = false ∧ (k == 5) = false ∧ (k == 6) = false ∧ (k == 7) = false := by
  by_cases h2 : k = 2
  · subst h2; left; decide
  · by_cases h3 : k = 3
    · subst h3; left; decide
    · by_cases h4 : k = 4
      · subst h4; left; decide
      · by_cases h5 : k = 5
        · subst h5; right; left; decide
        · by_cases h6 : k = 6
          · subst h6; right; left; decide
          · by_cases h7 : k = 7
            · subst h7; right; right; left; decide
            · right; right; right; simp [plain, begins, parts, h2, h3, h4, h5, h6, h7]

theorem row_form1' {W : World} {base e sz n : Nat} {v : Value} {xs : List Value} (h : W.ownsRow base e sz v (n + 1) xs) : ∃ g c, v = .slice (some ⟨g, 0, none⟩) (n + 1) c ∧ n + 1 ≤ c ∧ c ≤ maxLen ∧ base ≤ g := by
  rcases id h.2 with ⟨_, h'⟩ | ⟨g, cap, cur, rfl, h1, h2, h3, h4, _⟩
  · cases h'
  · exact ⟨g, cap, rfl, h3, h4, h1⟩
theorem set_last1 (l : List Value) (a a' : Value) (n : Nat) (h : l.length = n) : (l ++ [a]).set n a' = l ++ [a'] := by
  subst h
  rw [List.set_append_right _ _ (Nat.le_refl _), Nat.sub_self]; rfl
theorem snoc_of {α : Type} {l : List α} (h : l ≠ []) : ∃ l' x, l = l' ++ [x] := ⟨l.dropLast, l.getLast h, (List.dropLast_concat_getLast h).symm⟩

set_option maxRecDepth 100000 in
set_option maxHeartbeats 8000000 in
theorem raround_any (v : Value) (ks : List Int) (X : Nat) (t : T) (w : World) (hv : Lns w v ks) (hl : ks.length ≤ 100000) (hX : X < ks.length) (hgo : Ct.go 0 ks (nil, []) = .inr (t, [])) :
    Calls Try.prog 17 #[v, .int .i64 X] w fun e w' => ∃ u, e = .returned u ∧ Ints w' u ((scan ks X (X + 1) 0 []).map fun x : Nat => (x : Int)) ∧ Below w.heap.size w w' := by
  obtain ⟨full, hfull⟩ : ∃ full, full = scan ks X (X + 1) 0 [] := ⟨_, rfl⟩
  rw [← hfull]
  obtain ⟨i0, hi, hz0, hz1, hz2⟩ := info_parts info3
  obtain ⟨ad, cap, rfl, h1, h2, h3⟩ := hv
  obtain ⟨n, hn⟩ : ∃ n, n = ks.length := ⟨_, rfl⟩
  rw [← hn] at hl h1 h3 hX
  rw [← hn]
  have Hn := Lib.hid hn
  have H3 := Lib.hid h3
  have HFull := Lib.hid hfull
  have HGo := Lib.hid hgo
  unfold maxLen at h2
  clear hn h3 hfull hgo
  go_enter Try.func17, Try.ntmps17
  go_wp2_with fail
  go_loopw [5, 6] (fun u i wr => ∃ (k : Nat) (o : List Nat) (s : S), i = .int .i64 k ∧ k ≤ X + 1 ∧ o = scan ks X k 0 [] ∧ (k ≤ X → o = curs s.2 ∧ Ct.go k (ks.drop k) s = .inr (t, [])) ∧ o.length ≤ k ∧ wr.ownsRow w.heap.size 3 1 u o.length (nums o) ∧ Below w.heap.size w wr) (fun _ i _ => X + 1 - (intOf i).toNat)
  case atStart => exact ⟨0, [], (nil, []), rfl, Nat.zero_le _, rfl, fun _ => ⟨rfl, HGo.out⟩, Nat.le_refl _, World.ownsRow_nil _ _ _ _, Below.refl _ _⟩
  case round =>
    obtain ⟨k, o, s, rfl, hk, ho, hst, hol, hrow, hB⟩ := hrel
    have hsB := hB.size
    by_cases hlt : k ≤ X
    · obtain ⟨ho2, hgo⟩ := hst hlt
      obtain ⟨g, of, rfl, hg, hc⟩ := H3.out (by omega)
      obtain ⟨x, hx⟩ : ∃ x, ks[k]? = some x := ⟨_, List.getElem?_eq_getElem (by rw [← Hn.out]; omega)⟩
      obtain ⟨d0, -⟩ := hc k x hx
      replace d0 := (hB.cell (p := ⟨g, of + k * 4, none⟩) hg).trans d0
      rw [drop_more hx] at hgo
      obtain ⟨hw, hgo'⟩ := go_step hgo
      have hsc : scan ks X (k + 1) 0 [] = sc1 X x k o := by rw [scan_snoc, Nat.zero_add, kd_of hx, ← ho]
      have hnext : k + 1 ≤ X → scan ks X (k + 1) 0 [] = curs (Ct.take k x s).2 ∧ Ct.go (k + 1) (ks.drop (k + 1)) (Ct.take k x s) = .inr (t, []) := fun h => by
        rw [hsc, ho2]
        exact ⟨sc1_take X x k s hw (by omega), hgo'⟩
      have hne : parts x = true ∨ x = 7 → o ≠ [] := fun h => by
        rw [ho2]
        have := wrong_ne hw h
        intro h0
        simp [curs] at h0
        exact this h0
      have y1 : (k : Int) ≤ X := by omega
      have y2 : (k : Int) < n := by omega
      have HN := Lib.hid hnext
      have HNe := Lib.hid hne
      have HSc := Lib.hid hsc
      clear hc hx hgo hgo' hw ho2 hst ho hnext hne hsc
      rcases kind_cases x with ⟨hb0, hb, hp, k5, k6, k7⟩ | ⟨hb, hp, k7, k56⟩ | ⟨hb, hp, k5, k6, k7⟩ | ⟨hpl, hb, hp, k5, k6, k7⟩
      · have hs2 := HSc.out
        rw [sc1_begins _ _ hb] at hs2
        have HS2 := Lib.hid hs2
        clear hs2
        have HBg := Lib.hid (begins_any x wr)
        rw [hb] at HBg
        clear hb0 hb hp
        go_wp2_with fail
        refine HBg.out.mono ?_
        rintro e w' ⟨rfl, hw'⟩
        rw [hw']
        clear hw' w'
        go_wp2_with (at_builtin; refine wpList_append_lies _ rfl _ _ 22 rfl w.heap.size 3 i0 (.int .i64 0) 1 8 Try.underlying22 hi hz0 hz1 hz2 rfl (by decide) _ _ _ rfl (hrow.alloc _) ⟨wr.heap.size, 0, none⟩ 1 1 [.int .i64 k] rfl rfl (news1 _ _ _) (by simp [Value.oneCell']) (by decide) (by unfold maxLen; omega) (by omega) (by simp; omega) _ rfl ?_; intro g' cap' w' hown' hgrow hat _)
        go_roundw
        case rel =>
          refine ⟨k + 1, o ++ [k], Ct.take k x s, by go_num, by omega, HS2.out.symm, fun h => by rw [← HS2.out]; exact HN.out h, by simp; omega, ?_, (hB.alloc hsB _).grown hgrow (by simp; omega) (fun j ej => (hrow.lt j ej).1)⟩
          rw [nums_append, List.length_append]; exact hown'
        case measure => simp [intOf]; omega
      · obtain ⟨o', z, rfl⟩ := snoc_of (HNe.out (.inl hp))
        have hs2 := HSc.out
        rw [sc1_parts _ _ _ hp] at hs2
        have HS2 := Lib.hid hs2
        clear hs2
        have HBg := Lib.hid (begins_any x wr)
        rw [hb] at HBg
        rw [List.length_append, nums_append] at hrow
        simp only [List.length_append, List.length_cons, List.length_nil] at hol
        obtain ⟨gr, cr, rfl, hn1, -, -⟩ := row_form1' hrow
        obtain ⟨m, hm⟩ : ∃ m, m = o'.length := ⟨_, rfl⟩
        rw [← hm] at hol hrow hn1 ⊢
        have hst := hrow.stored m (.int .i64 k)
        have hcell : wr.cell? ⟨gr, m, none⟩ = some (.int .i64 z) := by
          have := hrow.cells (g := gr) rfl m (.int .i64 z) (by rw [List.getElem?_append_right (by rw [nums_length, ← hm]; exact Nat.le_refl _), nums_length, ← hm, Nat.sub_self]; rfl)
          rwa [add_none, Nat.zero_add] at this
        have hfz := hrow.frozenAt m
        have hgb := (hrow.lt gr rfl).1
        have z4 : IntKind.i64.wrap (m : Int) = m := IntWalk.i64_in _ (by omega)
        have z5 : IntKind.i64.wrap ((m : Int) + 1 - 1) = m := by rw [IntWalk.i64_in _ (by omega)]; omega
        have HSt := Lib.hid hst
        have Hm := Lib.hid hm
        clear hb hp hst hm
        rw [show [z].length = 1 from rfl] at *
        go_wp2_with fail
        refine HBg.out.mono ?_
        rintro e w' ⟨rfl, hw'⟩
        rw [hw']
        clear hw' w'
        rcases k56 with ⟨k5, k6⟩ | ⟨k5, k6⟩
        all_goals
          go_wp2_with fail
          go_roundw
          case rel =>
            refine ⟨k + 1, o' ++ [k], Ct.take k x s, by go_num, by omega, HS2.out.symm, fun h => by rw [← HS2.out]; exact HN.out h, by rw [List.length_append, ← Hm.out]; simp; omega, ?_, hB.setCell hgb _⟩
            have := HSt.out.1
            rw [show nums [z] = [.int .i64 z] from rfl, set_last1 _ _ _ _ (by rw [nums_length, ← Hm.out])] at this
            rw [nums_append, List.length_append, ← Hm.out]; exact this
          case measure => simp [intOf]; omega
      · have hx7 : x = 7 := by simpa using k7
        subst hx7
        obtain ⟨o', z, rfl⟩ := snoc_of (HNe.out (.inr rfl))
        have HBg := Lib.hid (begins_any 7 wr)
        rw [hb] at HBg
        rw [List.length_append, nums_append] at hrow
        simp only [List.length_append, List.length_cons, List.length_nil] at hol
        obtain ⟨gr, cr, rfl, hn1, -, -⟩ := row_form1' hrow
        obtain ⟨m, hm⟩ : ∃ m, m = o'.length := ⟨_, rfl⟩
        rw [← hm] at hol hrow hn1 ⊢
        have hcut := ownsRow_take (m := m) hrow (by omega)
        rw [Nat.mul_one, List.take_left' (by rw [nums_length, ← hm])] at hcut
        have z4 : IntKind.i64.wrap (m : Int) = m := IntWalk.i64_in _ (by omega)
        have z5 : IntKind.i64.wrap ((m : Int) + 1 - 1) = m := by rw [IntWalk.i64_in _ (by omega)]; omega
        have z6 : (m : Int) ≤ cr := by omega
        have HCut := Lib.hid hcut
        have Hm := Lib.hid hm
        clear hb hp hcut hm k5 k6 k7
        rw [show [z].length = 1 from rfl] at *
        by_cases hXk : k < X
        · have hs2 := HSc.out
          rw [sc1_end _ _ _ (by omega)] at hs2
          have HS2 := Lib.hid hs2
          have y3 : (k : Int) < X := by omega
          clear hs2
          go_wp2_with fail
          refine HBg.out.mono ?_
          rintro e w' ⟨rfl, hw'⟩
          rw [hw']
          clear hw' w'
          go_wp2_with fail
          go_roundw
          case rel =>
            refine ⟨k + 1, o', Ct.take k 7 s, by go_num, by omega, HS2.out.symm, fun h => by rw [← HS2.out]; exact HN.out h, by rw [← Hm.out]; omega, ?_, hB⟩
            rw [← Hm.out]; exact HCut.out
          case measure => simp [intOf]; omega
        · have hs2 := HSc.out
          rw [sc1_last _ _ (by omega)] at hs2
          have HS2 := Lib.hid hs2
          have y3 : ¬ ((k : Int) < X) := by omega
          have HR := Lib.hid hrow
          clear hs2
          go_wp2_with fail
          refine HBg.out.mono ?_
          rintro e w' ⟨rfl, hw'⟩
          rw [hw']
          clear hw' w'
          go_wp2_with fail
          go_roundw
          case rel =>
            refine ⟨k + 1, o' ++ [z], Ct.take k 7 s, by go_num, by omega, HS2.out.symm, fun h => by omega, by rw [List.length_append, ← Hm.out]; simp; omega, ?_, hB⟩
            rw [nums_append, List.length_append, ← Hm.out]; exact HR.out
          case measure => simp [intOf]; omega
      · have hs2 := HSc.out
        rw [sc1_plain _ _ hpl] at hs2
        have HS2 := Lib.hid hs2
        have HBg := Lib.hid (begins_any x wr)
        rw [hb] at HBg
        clear hs2 hb hp hpl
        go_wp2_with fail
        refine HBg.out.mono ?_
        rintro e w' ⟨rfl, hw'⟩
        rw [hw']
        clear hw' w'
        go_wp2_with fail
        go_roundw
        case rel => exact ⟨k + 1, o, Ct.take k x s, by go_num, by omega, HS2.out.symm, fun h => by rw [← HS2.out]; exact HN.out h, by omega, hrow, hB⟩
        case measure => simp [intOf]; omega
    · have : k = X + 1 := by omega
      subst this
      have y1 : ¬ ((X : Int) + 1 ≤ X) := by omega
      have he : o = full := by rw [ho]; exact HFull.out.symm
      subst he
      clear hst ho
      go_wp2_with fail
      go_ret
      exact ⟨_, rfl, Ints.of_nums hrow rfl, hB⟩
end Go.Proofs.Ytjmbchemdcmegaa
