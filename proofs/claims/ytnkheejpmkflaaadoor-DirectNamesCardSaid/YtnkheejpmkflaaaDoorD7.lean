/- What is proved: what the document's own line and Lines tell of any tokens. -/
import Derived.Test.YtnkheejpmkflaaaDoorD5
import Derived.Deep.AppendLies
namespace Go.Proofs.YtnkheejpmkflaaaDoor
open Go.RowKit Go.Shelf

/-- A line of the document: its tokens' slice is a part of the one that was handed. -/
def LinePost (w : World) (v : Value) (ts : List K) (first : Nat) (e : Ending) (w' : World) : Prop :=
  ∃ ad c, e = .returned (lnAgg (Dx.mkLn first ts).kind first ts.length (.slice ad (Dx.mkLn first ts).toks.length c)) ∧ (∀ W, Ks W v ts → Ks W (.slice ad (Dx.mkLn first ts).toks.length c) (Dx.mkLn first ts).toks) ∧ Below w.heap.size w w'

theorem part_from {W : World} {g o n cap a x : Nat} {ts : List K} (h : Ks W (.slice (some ⟨g, o, none⟩) n cap) ts) (ha : a ≤ ts.length) (_ : cap = a → x = 0) (hx1 : cap ≠ a → x = a * 6) :
    Ks W (.slice (some ⟨g, o + x, none⟩) (n - a) (cap - a)) (ts.drop a) := by
  obtain ⟨_, _, e, h1, h2, _⟩ := id h
  injection e with _ e2 e3
  subst e2 e3
  by_cases hc : cap = a
  · have h0 : ts.length - a = 0 := by omega
    rw [h0, List.drop_of_length_le (by omega)]
    exact Ks.none_at _ _ _ (by omega)
  · rw [hx1 hc]
    have := h.part a ts.length ha (Nat.le_refl _)
    rwa [List.take_of_length_le (by rw [List.length_drop]; omega)] at this

set_option maxHeartbeats 8000000 in
set_option maxRecDepth 100000 in
theorem line_any (v : Value) (ts : List K) (first : Nat) (w : World) (hv : Ks w v ts) (hl : ts.length * 56 ≤ 140737488355328) :
    Calls Tryd.prog 29 #[v, .int .i64 first] w (LinePost w v ts first) := by
  obtain ⟨ad, cap, rfl, hc1, hc2, hc3⟩ := id hv
  match ts, hv, hl with
  | [], hv, hl =>
    clear hv hc3
    go_enter Tryd.func29, Tryd.ntmps29
    go_wp2_with fail
    exact bodyPost_ret (v := lnAgg 1 first 0 (.slice ad 0 cap)) (by simp [results, Tryd.results29, go_sem, lnAgg]) rfl ⟨ad, cap, rfl, fun W h => h, (Below.refl _ w).alloc (Nat.le_refl _) _⟩
  | t :: r, hv, hl =>
    obtain ⟨g, o, rfl, -, -, -, hg, hcell⟩ := hv.cells (by simp)
    have c := hcell 0 t rfl
    cases hs : Dx.isSign t ⟨#[35]⟩ with
    | false =>
      have hmk : Dx.mkLn first (t :: r) = ⟨1, first, (t :: r).length, t :: r⟩ := by unfold Dx.mkLn; rw [Dx.begins_no t r hs]; rfl
      have HM := Lib.hid hmk
      obtain ⟨kd, tx, fl, fr, en, bl⟩ := t
      obtain ⟨c0, c1, -, -, -, -⟩ := c
      dsimp only at c0 c1
      simp only [Nat.zero_mul, Nat.add_zero] at c0 c1
      obtain ⟨n, hn⟩ : ∃ n, n = (K.mk kd tx fl fr en bl :: r).length := ⟨_, rfl⟩
      have hn1 : 1 ≤ n := by rw [hn]; simp
      rw [← hn] at hl hc1 ⊢
      have HN := Lib.hid hn
      have z0 : ((n : Int) == 0) = false := by simp; omega
      have hcs : (kd != 5) = true ∨ (kd = 5 ∧ (tx.toList == [35]) = false) := by
        by_cases h5 : kd = 5
        · refine .inr ⟨h5, ?_⟩
          have h2 := ba_beq tx ⟨#[35]⟩
          rw [show (⟨#[35]⟩ : ByteArray).toList = [35] from by rw [Lib.toList_data]] at h2
          rw [h2]
          simp [Dx.isSign, h5] at hs
          simpa using hs
        · exact .inl (by simpa using h5)
      clear hv hc3 hcell hs hmk hn
      have fin : ∀ W', Below w.heap.size w W' → LinePost w (.slice (some ⟨g, o, none⟩) n cap) (K.mk kd tx fl fr en bl :: r) first (.returned (lnAgg 1 first n (.slice (some ⟨g, o, none⟩) n cap))) W' := fun W' hb => by
        unfold LinePost
        rw [HM.out]
        dsimp only
        rw [← HN.out]
        exact ⟨_, _, rfl, fun W h => h, hb⟩
      rcases hcs with t1 | ⟨rfl, t2⟩
      · go_enter Tryd.func29, Tryd.ntmps29
        go_wp2_with fail
        exact bodyPost_ret (v := lnAgg 1 first n (.slice (some ⟨g, o, none⟩) n cap)) (by simp [results, Tryd.results29, go_sem, lnAgg]) rfl (fin _ ((Below.refl _ w).alloc (Nat.le_refl _) _))
      · go_enter Tryd.func29, Tryd.ntmps29
        go_wp2_with fail
        exact bodyPost_ret (v := lnAgg 1 first n (.slice (some ⟨g, o, none⟩) n cap)) (by simp [results, Tryd.results29, go_sem, lnAgg]) rfl (fin _ ((Below.refl _ w).alloc (Nat.le_refl _) _))
    | true =>
      cases r with
      | nil =>
        have hmk : Dx.mkLn first [t] = ⟨14, first, 1, []⟩ := by unfold Dx.mkLn; rw [Dx.begins_one t hs]; rfl
        have HM := Lib.hid hmk
        obtain ⟨kd, tx, fl, fr, en, bl⟩ := t
        obtain ⟨c0, c1, -, -, -, -⟩ := c
        dsimp only at c0 c1
        simp only [Nat.zero_mul, Nat.add_zero] at c0 c1
        obtain ⟨rfl, rfl⟩ : kd = 5 ∧ tx = ⟨#[35]⟩ := by simpa [Dx.isSign] using hs
        clear hv hc3 hcell hs hmk
        simp only [List.length_cons, List.length_nil, Nat.zero_add] at hl hc1 ⊢
        go_enter Tryd.func29, Tryd.ntmps29
        go_wp2_with fail
        refine bodyPost_ret (v := lnAgg 14 first 1 (.slice none 0 0)) (by simp [results, Tryd.results29, go_sem, lnAgg]) rfl ?_
        unfold LinePost
        rw [HM.out]
        exact ⟨none, 0, rfl, fun W _ => Ks.none_at _ _ _ (Nat.zero_le _), (Below.refl _ w).alloc (Nat.le_refl _) _⟩
      | cons u r =>
        have d := hcell 1 u rfl
        obtain ⟨q, hq⟩ : ∃ q, q = Dx.kindOf u.text := ⟨_, rfl⟩
        have hmk : Dx.mkLn first (t :: u :: r) = if u.kind = 1 ∧ q ≠ 0 then ⟨q, first, r.length + 2, r⟩ else ⟨15, first, r.length + 2, u :: r⟩ := by
          unfold Dx.mkLn; rw [Dx.begins_two t u r hs, ← hq]
          split <;> rfl
        have HM := Lib.hid hmk
        have HQ := Lib.hid hq
        obtain ⟨kd, tx, fl, fr, en, bl⟩ := t
        obtain ⟨c0, c1, -, -, -, -⟩ := c
        dsimp only at c0 c1
        simp only [Nat.zero_mul, Nat.add_zero] at c0 c1
        obtain ⟨rfl, rfl⟩ : kd = 5 ∧ tx = ⟨#[35]⟩ := by simpa [Dx.isSign] using hs
        obtain ⟨uk, ux, ul, ur, un, ub⟩ := u
        obtain ⟨d0, d1, -, -, -, -⟩ := d
        dsimp only at d0 d1 HQ HM
        simp only [Nat.reduceMul] at d0 d1
        simp only [List.length_cons] at hl hc1 ⊢
        obtain ⟨n, hn⟩ : ∃ n, n = r.length := ⟨_, rfl⟩
        rw [← hn] at hl hc1 ⊢
        have HN := Lib.hid hn
        have z0 : ((n : Int) + 1 + 1 == 0) = false := by simp; omega
        have z1 : ((n : Int) + 1 + 1 == 1) = false := by simp; omega
        clear hv hc3 hcell hs hmk hn hq
        have fin2 : ∀ x W', (cap = 2 → x = 0) → (cap ≠ 2 → x = 2 * 6) → uk = 1 → q ≠ 0 → Below w.heap.size w W' → LinePost w (.slice (some ⟨g, o, none⟩) (n + 1 + 1) cap) (K.mk 5 ⟨#[35]⟩ fl fr en bl :: K.mk uk ux ul ur un ub :: r) first (.returned (lnAgg q first ((n : Int) + 1 + 1) (.slice (some ⟨g, o + x, none⟩) (n + 1 + 1 - 2) (cap - 2)))) W' := fun x W' hx0 hx1 hu hq hb => by
          unfold LinePost
          rw [HM.out, if_pos ⟨hu, hq⟩]
          refine ⟨some ⟨g, o + x, none⟩, cap - 2, ?_, ?_, hb⟩
          · simp only [List.length_cons, ← HN.out]; rfl
          · intro W h
            have := part_from (a := 2) (x := x) h (by simp) hx0 hx1
            simpa [HN.out] using this
        have fin1 : ∀ x W', (cap = 1 → x = 0) → (cap ≠ 1 → x = 1 * 6) → ¬ (uk = 1 ∧ q ≠ 0) → Below w.heap.size w W' → LinePost w (.slice (some ⟨g, o, none⟩) (n + 1 + 1) cap) (K.mk 5 ⟨#[35]⟩ fl fr en bl :: K.mk uk ux ul ur un ub :: r) first (.returned (lnAgg 15 first ((n : Int) + 1 + 1) (.slice (some ⟨g, o + x, none⟩) (n + 1 + 1 - 1) (cap - 1)))) W' := fun x W' hx0 hx1 hu hb => by
          unfold LinePost
          rw [HM.out, if_neg hu]
          refine ⟨some ⟨g, o + x, none⟩, cap - 1, ?_, ?_, hb⟩
          · simp only [List.length_cons, ← HN.out]; rfl
          · intro W h
            have := part_from (a := 1) (x := x) h (by simp) hx0 hx1
            simpa [HN.out] using this
        have F1 := Lib.hid fin1
        have F2 := Lib.hid fin2
        clear fin1 fin2
        by_cases hu : uk = 1 ∧ q ≠ 0
        · obtain ⟨rfl, hq0⟩ := hu
          have t3 : (q != 0) = true := by simpa using hq0
          have HQ0 := Lib.hid hq0
          clear hq0
          rcases Nat.lt_or_ge 2 cap with hcap | hcap
          · have hc2' : ¬ (2 = cap) := by omega
            go_enter Tryd.func29, Tryd.ntmps29
            go_wp2_with fail
            refine (rkind_any ux _).mono ?_
            rintro e w1 ⟨rfl, rfl⟩
            rw [← HQ.out]
            go_wp2_with fail
            exact bodyPost_ret (v := lnAgg q first ((n : Int) + 1 + 1) (.slice (some ⟨g, o + 12, none⟩) n (cap - 2))) (by simp [results, Tryd.results29, go_sem, lnAgg]) rfl (F2.out 12 _ (fun h => by omega) (fun _ => rfl) (by trivial) HQ0.out ((Below.refl _ w).alloc (Nat.le_refl _) _))
          · obtain rfl : cap = 2 := by omega
            obtain rfl : n = 0 := by omega
            simp only [Nat.zero_add, Int.natCast_zero, Int.zero_add, Int.reduceAdd, Nat.reduceAdd] at z0 z1 F2 ⊢
            go_enter Tryd.func29, Tryd.ntmps29
            go_wp2_with fail
            refine (rkind_any ux _).mono ?_
            rintro e w1 ⟨rfl, rfl⟩
            rw [← HQ.out]
            go_wp2_with fail
            exact bodyPost_ret (v := lnAgg q first 2 (.slice (some ⟨g, o + 0, none⟩) 0 0)) (by simp [results, Tryd.results29, go_sem, lnAgg]) rfl (F2.out 0 _ (fun h => rfl) (fun h => absurd rfl h) (by trivial) HQ0.out ((Below.refl _ w).alloc (Nat.le_refl _) _))
        · have HU := Lib.hid hu
          have hc1' : ¬ (1 = cap) := by omega
          have hcs : (uk == 1) = false ∨ (uk = 1 ∧ q = 0) := by
            by_cases h : uk = 1
            · refine .inr ⟨h, ?_⟩
              by_cases h0 : q = 0
              · exact h0
              · exact absurd ⟨h, h0⟩ hu
            · exact .inl (by simpa using h)
          clear hu
          rcases hcs with t1 | ⟨rfl, rfl⟩
          · go_enter Tryd.func29, Tryd.ntmps29
            go_wp2_with fail
            refine (rkind_any ux _).mono ?_
            rintro e w1 ⟨rfl, rfl⟩
            rw [← HQ.out]
            go_wp2_with fail
            exact bodyPost_ret (v := lnAgg 15 first ((n : Int) + 1 + 1) (.slice (some ⟨g, o + 6, none⟩) (n + 1) (cap - 1))) (by simp [results, Tryd.results29, go_sem, lnAgg]) rfl (F1.out 6 _ (fun h => by omega) (fun _ => rfl) HU.out ((Below.refl _ w).alloc (Nat.le_refl _) _))
          · go_enter Tryd.func29, Tryd.ntmps29
            go_wp2_with fail
            refine (rkind_any ux _).mono ?_
            rintro e w1 ⟨rfl, rfl⟩
            rw [← HQ.out]
            go_wp2_with fail
            exact bodyPost_ret (v := lnAgg 15 first ((n : Int) + 1 + 1) (.slice (some ⟨g, o + 6, none⟩) (n + 1) (cap - 1))) (by simp [results, Tryd.results29, go_sem, lnAgg]) rfl (F1.out 6 _ (fun h => by omega) (fun _ => rfl) HU.out ((Below.refl _ w).alloc (Nat.le_refl _) _))

theorem At.lt {ts : List K} {f k : Nat} {pre : List (Nat × Nat)} (h : Dx.At ts f k pre) : pre.length ≤ (Dx.cuts 0 0 ts).length := by rw [h.2.2]; simp

set_option maxRecDepth 100000 in
set_option maxHeartbeats 8000000 in
theorem rlines_any (v : Value) (ts : List K) (w : World) (hv : Ks w v ts) (hl : ts.length * 56 ≤ 140737488355328) :
    Calls Tryd.prog 13 #[v] w fun e W' => ∃ u, e = .returned u ∧ Lns W' u (Dx.lines ts) ∧ Below w.heap.size w W' := by
  obtain ⟨i0, hi, hz0, hz1, hz2⟩ := info_parts infoLn
  obtain ⟨ad, cap, rfl, hc1, hc2, -⟩ := id hv
  rcases Nat.eq_zero_or_pos ts.length with h0 | hpos
  · obtain rfl : ts = [] := List.length_eq_zero_iff.1 h0
    clear hv
    go_enter Tryd.func13, Tryd.ntmps13
    go_wp2_with fail
    go_loop [3, 4, 5] (fun a f i => a = .slice none 0 0 ∧ f = .int .i64 0 ∧ i = .int .i64 0) (fun _ _ _ => 0)
    case atStart => exact ⟨rfl, rfl, rfl⟩
    case round =>
      obtain ⟨rfl, rfl, rfl⟩ := hrel
      go_wp2_with fail
      go_ret
      exact ⟨_, rfl, Lns.of_row (vs := []) (World.ownsRow_nil _ w.heap.size _ _) (SlK.nil _), Below.refl _ _⟩
  · obtain ⟨g, o, rfl, -, -, -, hg, hcell⟩ := hv.cells hpos
    have hcl := Dx.cuts_length ts
    obtain ⟨N, hN⟩ : ∃ N, N = ts.length := ⟨_, rfl⟩
    have hvN : Ks w (.slice (some ⟨g, o, none⟩) N cap) ts := by rw [hN]; exact hv
    rw [← hN] at hl hc1 hpos hcl ⊢
    have HN := Lib.hid hN
    have HV := Lib.hid hvN
    have HC := Lib.hid hcell
    clear hN hv hvN hcell
    go_enter Tryd.func13, Tryd.ntmps13
    go_wp2_with fail
    go_loopw [3, 4, 5] (fun a f i wr => ∃ (F k : Nat) (pre : List (Nat × Nat)) (vs : List Value), f = .int .i64 F ∧ i = .int .i64 k ∧ Dx.At ts F k pre ∧ wr.ownsRow w.heap.size 34 4 a pre.length (lnCells vs (pre.map (Dx.lnOf ts))) ∧
        (∀ W, Ks W (.slice (some ⟨g, o, none⟩) N cap) ts → SlK W vs (pre.map (Dx.lnOf ts))) ∧ Below w.heap.size w wr) (fun _ _ i _ => N - (intOf i).toNat)
    case atStart => exact ⟨0, 0, [], [], rfl, rfl, Dx.at_start ts, World.ownsRow_nil _ _ _ _, fun _ _ => SlK.nil _, Below.refl _ _⟩
    case round =>
      obtain ⟨F, k, pre, vs, rfl, rfl, hat, hrow, hsl, hB⟩ := hrel
      have hFk := hat.1
      have hkN := hat.2.1
      rw [← HN.out] at hkN
      have hsB := hB.size
      have HS := Lib.hid hsl
      have hvsl : vs.length = (pre.map (Dx.lnOf ts)).length := (hsl w HV.out).1
      have HVs := Lib.hid hvsl
      clear hsl hvsl
      by_cases hlt : k < N
      · obtain ⟨t, ht⟩ : ∃ t, ts[k]? = some t := ⟨_, List.getElem?_eq_getElem (by rw [← HN.out]; exact hlt)⟩
        have c0 := ((HC.out k t ht).below hB hg).1
        by_cases hkd : t.kind = 7
        · obtain ⟨hat2, hpre, hlen⟩ := Dx.at_cut hat ht hkd
          rw [hkd] at c0
          have hpt := HV.out.part F k hFk (by rw [← HN.out]; exact hkN)
          have hpt2 := (HV.out.below hB).part F k hFk (by rw [← HN.out]; exact hkN)
          have hpW : ∀ W, Ks W (.slice (some ⟨g, o, none⟩) N cap) ts → Ks W (.slice (some ⟨g, o + F * 6, none⟩) (k - F) (cap - F)) ((ts.drop F).take (k - F)) := fun W h => h.part F k hFk (by rw [← HN.out]; exact hkN)
          have htl : ((ts.drop F).take (k - F)).length = k - F := by have := HN.out; rw [List.length_take, List.length_drop]; omega
          obtain ⟨L, hL⟩ : ∃ L, L = Dx.lnOf ts (F, k - F) := ⟨_, rfl⟩
          have hL' : L = Dx.mkLn F ((ts.drop F).take (k - F)) := hL
          obtain ⟨tl, htl'⟩ : ∃ tl, tl = (ts.drop F).take (k - F) := ⟨_, rfl⟩
          rw [← htl'] at hpt2 hpW htl hL'
          have HA := Lib.hid hat2
          have HP := Lib.hid hpt2
          have HPW := Lib.hid hpW
          have HL := Lib.hid hL
          have HL' := Lib.hid hL'
          have Htl := Lib.hid htl
          have z1 : (F : Int) ≤ k := by omega
          have z2 : (k : Int) ≤ cap := by omega
          have z3 : (0 : Int) ≤ F := by omega
          have z4 : ¬ (F = cap) := by omega
          have hpl : pre.length < N := by omega
          clear hat hat2 hpre hlen hpt hpt2 hpW htl hL hL' htl' ht hkd
          go_wp2_with fail
          refine (line_any _ tl F _ HP.out (by rw [Htl.out]; omega)).mono ?_
          rintro e w1 ⟨ad1, cc1, rfl, hsub, hB1⟩
          rw [← HL'.out] at hsub ⊢
          dsimp only [lnAgg]
          rw [Htl.out]
          have hLf : L.first = F := by rw [HL.out]; rfl
          have hLn : L.n = k - F := by rw [HL'.out, ← Htl.out]; rfl
          have hB1w := Below.then hB hB1
          have hrow1 := row_below hrow hB1
          obtain ⟨lk, hlk⟩ : ∃ lk, lk = L.kind := ⟨_, rfl⟩
          obtain ⟨m1, hm1⟩ : ∃ m1, m1 = L.toks.length := ⟨_, rfl⟩
          obtain ⟨d, hd⟩ : ∃ d, d = k - F := ⟨_, rfl⟩
          rw [← hlk, ← hm1, ← hd]
          rw [← hm1] at hsub
          rw [← hd] at hLn
          have HSub := Lib.hid hsub
          have HLk := Lib.hid hlk
          have HLf := Lib.hid hLf
          have HLn := Lib.hid hLn
          have hw1 := hB1w.size
          clear hsub hlk hm1 hd hLf hLn
          go_wp2_with (at_builtin; refine wpList_append_lies _ rfl _ _ 23 rfl w.heap.size 34 i0 _ 4 48 Tryd.underlying23 hi hz0 hz1 hz2 rfl (by omega) _ pre.length _ rfl (hrow1.alloc _) ⟨w1.heap.size, 0, none⟩ 1 1 [.int .i64 lk, .int .i64 F, .int .i64 d, .slice ad1 m1 cc1] rfl rfl (news_line _ _ _ _ _ _) (by simp [Value.oneCell']) (by omega) (by unfold maxLen; omega) (by omega) (by simp; omega) (w1.heap.size + 1) (by simp) ?_; intro g1 cap1 w2 hown hgrow hatg hlt2)
          have hfr : (pre ++ [(F, k - F)]).map (Dx.lnOf ts) = pre.map (Dx.lnOf ts) ++ [L] := by rw [List.map_append, HL.out]; rfl
          have hrow2 : w2.ownsRow w.heap.size 34 4 (.slice (some ⟨g1, 0, none⟩) (pre.length + 1) cap1) (pre ++ [(F, k - F)]).length (lnCells (vs ++ [.slice ad1 m1 cc1]) ((pre ++ [(F, k - F)]).map (Dx.lnOf ts))) := by
            rw [hfr, lnCells_snoc _ _ _ _ HVs.out, HLf.out, HLn.out, ← HLk.out, List.length_append]
            exact hown
          have hsl2 : ∀ W, Ks W (.slice (some ⟨g, o, none⟩) N cap) ts → SlK W (vs ++ [.slice ad1 m1 cc1]) ((pre ++ [(F, k - F)]).map (Dx.lnOf ts)) := fun W h => by
            rw [hfr]
            exact (HS.out W h).snoc (HSub.out W (HPW.out W h))
          have hB2 : Below w.heap.size w w2 := (hB1w.alloc hB1w.size _).grown hgrow (by simp; omega) (fun i ei => (hrow1.lt i ei).1)
          have HR2 := Lib.hid hrow2
          have HS2 := Lib.hid hsl2
          clear hrow2 hsl2 hfr
          go_wp2_with fail
          go_roundw
          case rel => exact ⟨k + 1, k + 1, pre ++ [(F, k - F)], _, by go_num, by go_num, HA.out, HR2.out, HS2.out, hB2⟩
          case measure => simp [intOf]; omega
        · have hat2 := Dx.at_skip hat ht hkd
          have t1 : (t.kind == 7) = false := by simpa using hkd
          have HA := Lib.hid hat2
          clear hat hat2 ht hkd
          go_wp2_with fail
          go_roundw
          case rel => exact ⟨F, k + 1, pre, vs, rfl, by go_num, HA.out, hrow, HS.out, hB⟩
          case measure => simp [intOf]; omega
      · obtain ⟨he1, he2⟩ := Dx.at_endN hat HN.out (by omega)
        have H1 := Lib.hid he1
        have H2 := Lib.hid he2
        have hpl := At.lt hat
        clear he1 he2
        by_cases hf : F < N
        · obtain ⟨hcu, hlen⟩ := H1.out hf
          have hpW : ∀ W, Ks W (.slice (some ⟨g, o, none⟩) N cap) ts → Ks W (.slice (some ⟨g, o + F * 6, none⟩) (N - F) (cap - F)) ((ts.drop F).take (N - F)) := fun W h => h.part F N (by omega) (by rw [← HN.out]; omega)
          have hpt2 := hpW _ (HV.out.below hB)
          have htl : ((ts.drop F).take (N - F)).length = N - F := by have := HN.out; rw [List.length_take, List.length_drop]; omega
          obtain ⟨L, hL⟩ : ∃ L, L = Dx.lnOf ts (F, N - F) := ⟨_, rfl⟩
          have hL' : L = Dx.mkLn F ((ts.drop F).take (N - F)) := hL
          obtain ⟨tl, htl'⟩ : ∃ tl, tl = (ts.drop F).take (N - F) := ⟨_, rfl⟩
          rw [← htl'] at hpt2 hpW htl hL'
          have HCu := Lib.hid hcu
          have HP := Lib.hid hpt2
          have HPW := Lib.hid hpW
          have HL := Lib.hid hL
          have HL' := Lib.hid hL'
          have Htl := Lib.hid htl
          have z1 : (F : Int) ≤ N := by omega
          have z2 : (N : Int) ≤ cap := by omega
          have z3 : (0 : Int) ≤ F := by omega
          have z4 : ¬ (F = cap) := by omega
          have hpl' : pre.length < N := by omega
          clear hat hcu hpt2 hpW htl hL hL' htl' hpl
          go_wp2_with fail
          refine (line_any _ tl F _ HP.out (by rw [Htl.out]; omega)).mono ?_
          rintro e w1 ⟨ad1, cc1, rfl, hsub, hB1⟩
          rw [← HL'.out] at hsub ⊢
          dsimp only [lnAgg]
          rw [Htl.out]
          have hLf : L.first = F := by rw [HL.out]; rfl
          have hLn : L.n = N - F := by rw [HL'.out, ← Htl.out]; rfl
          have hB1w := Below.then hB hB1
          have hrow1 := row_below hrow hB1
          obtain ⟨lk, hlk⟩ : ∃ lk, lk = L.kind := ⟨_, rfl⟩
          obtain ⟨m1, hm1⟩ : ∃ m1, m1 = L.toks.length := ⟨_, rfl⟩
          obtain ⟨d, hd⟩ : ∃ d, d = N - F := ⟨_, rfl⟩
          rw [← hlk, ← hm1, ← hd]
          rw [← hm1] at hsub
          rw [← hd] at hLn
          have HSub := Lib.hid hsub
          have HLk := Lib.hid hlk
          have HLf := Lib.hid hLf
          have HLn := Lib.hid hLn
          have hw1 := hB1w.size
          clear hsub hlk hm1 hd hLf hLn
          go_wp2_with (at_builtin; refine wpList_append_lies _ rfl _ _ 23 rfl w.heap.size 34 i0 _ 4 48 Tryd.underlying23 hi hz0 hz1 hz2 rfl (by omega) _ pre.length _ rfl (hrow1.alloc _) ⟨w1.heap.size, 0, none⟩ 1 1 [.int .i64 lk, .int .i64 F, .int .i64 d, .slice ad1 m1 cc1] rfl rfl (news_line _ _ _ _ _ _) (by simp [Value.oneCell']) (by omega) (by unfold maxLen; omega) (by omega) (by simp; omega) (w1.heap.size + 1) (by simp) ?_; intro g1 cap1 w2 hown hgrow hatg hlt2)
          have hfr : (pre ++ [(F, N - F)]).map (Dx.lnOf ts) = pre.map (Dx.lnOf ts) ++ [L] := by rw [List.map_append, HL.out]; rfl
          have hrow2 : w2.ownsRow w.heap.size 34 4 (.slice (some ⟨g1, 0, none⟩) (pre.length + 1) cap1) (pre ++ [(F, N - F)]).length (lnCells (vs ++ [.slice ad1 m1 cc1]) ((pre ++ [(F, N - F)]).map (Dx.lnOf ts))) := by
            rw [hfr, lnCells_snoc _ _ _ _ HVs.out, HLf.out, HLn.out, ← HLk.out, List.length_append]
            exact hown
          have hsl2 : ∀ W, Ks W (.slice (some ⟨g, o, none⟩) N cap) ts → SlK W (vs ++ [.slice ad1 m1 cc1]) ((pre ++ [(F, N - F)]).map (Dx.lnOf ts)) := fun W h => by
            rw [hfr]
            exact (HS.out W h).snoc (HSub.out W (HPW.out W h))
          have hB2 : Below w.heap.size w w2 := (hB1w.alloc hB1w.size _).grown hgrow (by simp; omega) (fun i ei => (hrow1.lt i ei).1)
          have HR2 := Lib.hid hrow2
          have HS2 := Lib.hid hsl2
          clear hrow2 hsl2 hfr
          go_wp2_with fail
          go_ret
          refine ⟨_, rfl, ?_, hB2⟩
          have hq := Lns.of_row (base := w.heap.size) (by have := HR2.out; rw [List.length_append] at this; rw [List.length_map, List.length_append]; exact this) (HS2.out _ (HV.out.below hB2))
          rw [← HCu.out] at hq
          exact hq
        · have hcu := H2.out (by omega)
          have hrow' := hrow
          have hq : Lns wr u3 (Dx.lines ts) := by
            unfold Dx.lines
            rw [hcu]
            exact Lns.of_row (base := w.heap.size) (by rw [List.length_map]; exact hrow) (HS.out _ (HV.out.below hB))
          have HQ := Lib.hid hq
          clear hat hcu hq
          go_wp2_with fail
          go_ret
          exact ⟨_, rfl, HQ.out, hB⟩
end Go.Proofs.YtnkheejpmkflaaaDoor
