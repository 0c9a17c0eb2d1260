/- What is proved: what the document's own line and Lines tell of any tokens. (and what stands with it) -/
import Derived.Test.YtdopmmnabhcigaaGreatDoorGf
import Derived.Test.YtdopmmnabhcigaaGreatDoorGl
import Derived.Deep.AppendLies
import Derived.Test.YtdopmmnabhcigaaGreatDoorGj
import Derived.Test.YtdopmmnabhcigaaGreatDoorGi

/- What is proved: what the document's own line and Lines tell of any tokens. -/
namespace Go.Proofs.YtdopmmnabhcigaaGreatDoor
open Go.RowKit Go.Shelf

/-- A line of the document: its tokens' slice is a part of the one that was handed. -/
def LinePost (w : World) (v : Value) (ts : List K) (first : Nat) (e : Ending) (w' : World) : Prop :=
  ∃ ad c, e = .returned (lnAgg (Dx.mkLn first ts).kind first ts.length (.slice ad (Dx.mkLn first ts).toks.length c)) ∧ (∀ W, Ks W v ts → Ks W (.slice ad (Dx.mkLn first ts).toks.length c) (Dx.mkLn first ts).toks) ∧ Below w.heap.size w w'

theorem part_from {W : World} {g o n cap a x : Nat} {ts : List K} (h : Ks W (.slice (some ⟨g, o, none⟩) n cap) ts) (ha : a ≤ ts.length) (_ : cap = a → x = 0) (hx1 : cap ≠ a → x = a * 6) :
    Ks W (.slice (some ⟨g, o + x, none⟩) (n - a) (cap - a)) (ts.drop a) := by
  obtain ⟨_, _, e, h1, h2, _⟩ := id h
  injection e with _ e2 e3
  subst e2 e3
  by_cases hc : cap = a
  · have h0 : ts.length - a = 0 := by omega
    rw [h0, List.drop_of_length_le (by omega)]
    exact Ks.none_at _ _ _ (by omega)
  · rw [hx1 hc]
    have := h.part a ts.length ha (Nat.le_refl _)
    rwa [List.take_of_length_le (by rw [List.length_drop]; omega)] at this

set_option maxHeartbeats 8000000 in
set_option maxRecDepth 100000 in
theorem line_any (v : Value) (ts : List K) (first : Nat) (w : World) (hv : Ks w v ts) (hl : ts.length * 56 ≤ 140737488355328) :
    Calls Tryz.prog 46 #[v, .int .i64 first] w (LinePost w v ts first) := by
  obtain ⟨ad, cap, rfl, hc1, hc2, hc3⟩ := id hv
  match ts, hv, hl with
  | [], hv, hl =>
    clear hv hc3
    go_enter Tryz.func46, Tryz.ntmps46
    go_wp2_with fail
    exact bodyPost_ret (v := lnAgg 1 first 0 (.slice ad 0 cap)) (by simp [results, Tryz.results46, go_sem, lnAgg]) rfl ⟨ad, cap, rfl, fun W h => h, (Below.refl _ w).alloc (Nat.le_refl _) _⟩
  | t :: r, hv, hl =>
    obtain ⟨g, o, rfl, -, -, -, hg, hcell⟩ := hv.cells (by simp)
    have c := hcell 0 t rfl
    cases hs : Dx.isSign t ⟨#[35]⟩ with
    | false =>
      have hmk : Dx.mkLn first (t :: r) = ⟨1, first, (t :: r).length, t :: r⟩ := by unfold Dx.mkLn; rw [Dx.begins_no t r hs]; rfl
      have HM := Lib.hid hmk
      obtain ⟨kd, tx, fl, fr, en, bl⟩ := t
      obtain ⟨c0, c1, -, -, -, -⟩ := c
      dsimp only at c0 c1
      simp only [Nat.zero_mul, Nat.add_zero] at c0 c1
      obtain ⟨n, hn⟩ : ∃ n, n = (K.mk kd tx fl fr en bl :: r).length := ⟨_, rfl⟩
      have hn1 : 1 ≤ n := by rw [hn]; simp
      rw [← hn] at hl hc1 ⊢
      have HN := Lib.hid hn
      have z0 : ((n : Int) == 0) = false := by simp; omega
      have hcs : (kd != 5) = true ∨ (kd = 5 ∧ (tx.toList == [35]) = false) := by
        by_cases h5 : kd = 5
        · refine .inr ⟨h5, ?_⟩
          have h2 := ba_beq tx ⟨#[35]⟩
          rw [show (⟨#[35]⟩ : ByteArray).toList = [35] from by rw [Lib.toList_data]] at h2
          rw [h2]
          simp [Dx.isSign, h5] at hs
          simpa using hs
        · exact .inl (by simpa using h5)
      clear hv hc3 hcell hs hmk hn
      have fin : ∀ W', Below w.heap.size w W' → LinePost w (.slice (some ⟨g, o, none⟩) n cap) (K.mk kd tx fl fr en bl :: r) first (.returned (lnAgg 1 first n (.slice (some ⟨g, o, none⟩) n cap))) W' := fun W' hb => by
        unfold LinePost
        rw [HM.out]
        dsimp only
        rw [← HN.out]
        exact ⟨_, _, rfl, fun W h => h, hb⟩
      rcases hcs with t1 | ⟨rfl, t2⟩
      · go_enter Tryz.func46, Tryz.ntmps46
        go_wp2_with fail
        exact bodyPost_ret (v := lnAgg 1 first n (.slice (some ⟨g, o, none⟩) n cap)) (by simp [results, Tryz.results46, go_sem, lnAgg]) rfl (fin _ ((Below.refl _ w).alloc (Nat.le_refl _) _))
      · go_enter Tryz.func46, Tryz.ntmps46
        go_wp2_with fail
        exact bodyPost_ret (v := lnAgg 1 first n (.slice (some ⟨g, o, none⟩) n cap)) (by simp [results, Tryz.results46, go_sem, lnAgg]) rfl (fin _ ((Below.refl _ w).alloc (Nat.le_refl _) _))
    | true =>
      cases r with
      | nil =>
        have hmk : Dx.mkLn first [t] = ⟨14, first, 1, []⟩ := by unfold Dx.mkLn; rw [Dx.begins_one t hs]; rfl
        have HM := Lib.hid hmk
        obtain ⟨kd, tx, fl, fr, en, bl⟩ := t
        obtain ⟨c0, c1, -, -, -, -⟩ := c
        dsimp only at c0 c1
        simp only [Nat.zero_mul, Nat.add_zero] at c0 c1
        obtain ⟨rfl, rfl⟩ : kd = 5 ∧ tx = ⟨#[35]⟩ := by simpa [Dx.isSign] using hs
        clear hv hc3 hcell hs hmk
        simp only [List.length_cons, List.length_nil, Nat.zero_add] at hl hc1 ⊢
        go_enter Tryz.func46, Tryz.ntmps46
        go_wp2_with fail
        refine bodyPost_ret (v := lnAgg 14 first 1 (.slice none 0 0)) (by simp [results, Tryz.results46, go_sem, lnAgg]) rfl ?_
        unfold LinePost
        rw [HM.out]
        exact ⟨none, 0, rfl, fun W _ => Ks.none_at _ _ _ (Nat.zero_le _), (Below.refl _ w).alloc (Nat.le_refl _) _⟩
      | cons u r =>
        have d := hcell 1 u rfl
        obtain ⟨q, hq⟩ : ∃ q, q = Dx.kindOf u.text := ⟨_, rfl⟩
        have hmk : Dx.mkLn first (t :: u :: r) = if u.kind = 1 ∧ q ≠ 0 then ⟨q, first, r.length + 2, r⟩ else ⟨15, first, r.length + 2, u :: r⟩ := by
          unfold Dx.mkLn; rw [Dx.begins_two t u r hs, ← hq]
          split <;> rfl
        have HM := Lib.hid hmk
        have HQ := Lib.hid hq
        obtain ⟨kd, tx, fl, fr, en, bl⟩ := t
        obtain ⟨c0, c1, -, -, -, -⟩ := c
        dsimp only at c0 c1
        simp only [Nat.zero_mul, Nat.add_zero] at c0 c1
        obtain ⟨rfl, rfl⟩ : kd = 5 ∧ tx = ⟨#[35]⟩ := by simpa [Dx.isSign] using hs
        obtain ⟨uk, ux, ul, ur, un, ub⟩ := u
        obtain ⟨d0, d1, -, -, -, -⟩ := d
        dsimp only at d0 d1 HQ HM
        simp only [Nat.reduceMul] at d0 d1
        simp only [List.length_cons] at hl hc1 ⊢
        obtain ⟨n, hn⟩ : ∃ n, n = r.length := ⟨_, rfl⟩
        rw [← hn] at hl hc1 ⊢
        have HN := Lib.hid hn
        have z0 : ((n : Int) + 1 + 1 == 0) = false := by simp; omega
        have z1 : ((n : Int) + 1 + 1 == 1) = false := by simp; omega
        clear hv hc3 hcell hs hmk hn hq
        have fin2 : ∀ x W', (cap = 2 → x = 0) → (cap ≠ 2 → x = 2 * 6) → uk = 1 → q ≠ 0 → Below w.heap.size w W' → LinePost w (.slice (some ⟨g, o, none⟩) (n + 1 + 1) cap) (K.mk 5 ⟨#[35]⟩ fl fr en bl :: K.mk uk ux ul ur un ub :: r) first (.returned (lnAgg q first ((n : Int) + 1 + 1) (.slice (some ⟨g, o + x, none⟩) (n + 1 + 1 - 2) (cap - 2)))) W' := fun x W' hx0 hx1 hu hq hb => by
          unfold LinePost
          rw [HM.out, if_pos ⟨hu, hq⟩]
          refine ⟨some ⟨g, o + x, none⟩, cap - 2, ?_, ?_, hb⟩
          · simp only [List.length_cons, ← HN.out]; rfl
          · intro W h
            have := part_from (a := 2) (x := x) h (by simp) hx0 hx1
            simpa [HN.out] using this
        have fin1 : ∀ x W', (cap = 1 → x = 0) → (cap ≠ 1 → x = 1 * 6) → ¬ (uk = 1 ∧ q ≠ 0) → Below w.heap.size w W' → LinePost w (.slice (some ⟨g, o, none⟩) (n + 1 + 1) cap) (K.mk 5 ⟨#[35]⟩ fl fr en bl :: K.mk uk ux ul ur un ub :: r) first (.returned (lnAgg 15 first ((n : Int) + 1 + 1) (.slice (some ⟨g, o + x, none⟩) (n + 1 + 1 - 1) (cap - 1)))) W' := fun x W' hx0 hx1 hu hb => by
          unfold LinePost
          rw [HM.out, if_neg hu]
          refine ⟨some ⟨g, o + x, none⟩, cap - 1, ?_, ?_, hb⟩
          · simp only [List.length_cons, ← HN.out]; rfl
          · intro W h
            have := part_from (a := 1) (x := x) h (by simp) hx0 hx1
            simpa [HN.out] using this
        have F1 := Lib.hid fin1
        have F2 := Lib.hid fin2
        clear fin1 fin2
        by_cases hu : uk = 1 ∧ q ≠ 0
        · obtain ⟨rfl, hq0⟩ := hu
          have t3 : (q != 0) = true := by simpa using hq0
          have HQ0 := Lib.hid hq0
          clear hq0
          rcases Nat.lt_or_ge 2 cap with hcap | hcap
          · have hc2' : ¬ (2 = cap) := by omega
            go_enter Tryz.func46, Tryz.ntmps46
            go_wp2_with fail
            refine (rkind_any ux _).mono ?_
            rintro e w1 ⟨rfl, rfl⟩
            rw [← HQ.out]
            go_wp2_with fail
            exact bodyPost_ret (v := lnAgg q first ((n : Int) + 1 + 1) (.slice (some ⟨g, o + 12, none⟩) n (cap - 2))) (by simp [results, Tryz.results46, go_sem, lnAgg]) rfl (F2.out 12 _ (fun h => by omega) (fun _ => rfl) (by trivial) HQ0.out ((Below.refl _ w).alloc (Nat.le_refl _) _))
          · obtain rfl : cap = 2 := by omega
            obtain rfl : n = 0 := by omega
            simp only [Nat.zero_add, Int.natCast_zero, Int.zero_add, Int.reduceAdd, Nat.reduceAdd] at z0 z1 F2 ⊢
            go_enter Tryz.func46, Tryz.ntmps46
            go_wp2_with fail
            refine (rkind_any ux _).mono ?_
            rintro e w1 ⟨rfl, rfl⟩
            rw [← HQ.out]
            go_wp2_with fail
            exact bodyPost_ret (v := lnAgg q first 2 (.slice (some ⟨g, o + 0, none⟩) 0 0)) (by simp [results, Tryz.results46, go_sem, lnAgg]) rfl (F2.out 0 _ (fun h => rfl) (fun h => absurd rfl h) (by trivial) HQ0.out ((Below.refl _ w).alloc (Nat.le_refl _) _))
        · have HU := Lib.hid hu
          have hc1' : ¬ (1 = cap) := by omega
          have hcs : (uk == 1) = false ∨ (uk = 1 ∧ q = 0) := by
            by_cases h : uk = 1
            · refine .inr ⟨h, ?_⟩
              by_cases h0 : q = 0
              · exact h0
              · exact absurd ⟨h, h0⟩ hu
            · exact .inl (by simpa using h)
          clear hu
          rcases hcs with t1 | ⟨rfl, rfl⟩
          · go_enter Tryz.func46, Tryz.ntmps46
            go_wp2_with fail
            refine (rkind_any ux _).mono ?_
            rintro e w1 ⟨rfl, rfl⟩
            rw [← HQ.out]
            go_wp2_with fail
            exact bodyPost_ret (v := lnAgg 15 first ((n : Int) + 1 + 1) (.slice (some ⟨g, o + 6, none⟩) (n + 1) (cap - 1))) (by simp [results, Tryz.results46, go_sem, lnAgg]) rfl (F1.out 6 _ (fun h => by omega) (fun _ => rfl) HU.out ((Below.refl _ w).alloc (Nat.le_refl _) _))
          · go_enter Tryz.func46, Tryz.ntmps46
            go_wp2_with fail
            refine (rkind_any ux _).mono ?_
            rintro e w1 ⟨rfl, rfl⟩
            rw [← HQ.out]
            go_wp2_with fail
            exact bodyPost_ret (v := lnAgg 15 first ((n : Int) + 1 + 1) (.slice (some ⟨g, o + 6, none⟩) (n + 1) (cap - 1))) (by simp [results, Tryz.results46, go_sem, lnAgg]) rfl (F1.out 6 _ (fun h => by omega) (fun _ => rfl) HU.out ((Below.refl _ w).alloc (Nat.le_refl _) _))

theorem At.lt {ts : List K} {f k : Nat} {pre : List (Nat × Nat)} (h : Dx.At ts f k pre) : pre.length ≤ (Dx.cuts 0 0 ts).length := by rw [h.2.2]; simp

set_option maxRecDepth 100000 in
set_option maxHeartbeats 8000000 in
theorem rlines_row (v : Value) (ts : List K) (w : World) (hv : Ks w v ts) (hl : ts.length * 56 ≤ 140737488355328) :
    Calls Tryz.prog 33 #[v] w fun e W' => ∃ u, e = .returned u ∧ ∃ vs, W'.ownsRow w.heap.size 44 4 u (Dx.lines ts).length (lnCells vs (Dx.lines ts)) ∧ (∀ W, Ks W v ts → SlK W vs (Dx.lines ts)) ∧ Below w.heap.size w W' := by
  obtain ⟨i0, hi, hz0, hz1, hz2⟩ := info_parts infoLn
  obtain ⟨ad, cap, rfl, hc1, hc2, -⟩ := id hv
  rcases Nat.eq_zero_or_pos ts.length with h0 | hpos
  · obtain rfl : ts = [] := List.length_eq_zero_iff.1 h0
    clear hv
    go_enter Tryz.func33, Tryz.ntmps33
    go_wp2_with fail
    go_loop [3, 4, 5] (fun a f i => a = .slice none 0 0 ∧ f = .int .i64 0 ∧ i = .int .i64 0) (fun _ _ _ => 0)
    case atStart => exact ⟨rfl, rfl, rfl⟩
    case round =>
      obtain ⟨rfl, rfl, rfl⟩ := hrel
      go_wp2_with fail
      go_ret
      exact ⟨_, rfl, [], World.ownsRow_nil _ w.heap.size _ _, fun _ _ => SlK.nil _, Below.refl _ _⟩
  · obtain ⟨g, o, rfl, -, -, -, hg, hcell⟩ := hv.cells hpos
    have hcl := Dx.cuts_length ts
    obtain ⟨N, hN⟩ : ∃ N, N = ts.length := ⟨_, rfl⟩
    have hvN : Ks w (.slice (some ⟨g, o, none⟩) N cap) ts := by rw [hN]; exact hv
    rw [← hN] at hl hc1 hpos hcl ⊢
    have HN := Lib.hid hN
    have HV := Lib.hid hvN
    have HC := Lib.hid hcell
    clear hN hv hvN hcell
    go_enter Tryz.func33, Tryz.ntmps33
    go_wp2_with fail
    go_loopw [3, 4, 5] (fun a f i wr => ∃ (F k : Nat) (pre : List (Nat × Nat)) (vs : List Value), f = .int .i64 F ∧ i = .int .i64 k ∧ Dx.At ts F k pre ∧ wr.ownsRow w.heap.size 44 4 a pre.length (lnCells vs (pre.map (Dx.lnOf ts))) ∧
        (∀ W, Ks W (.slice (some ⟨g, o, none⟩) N cap) ts → SlK W vs (pre.map (Dx.lnOf ts))) ∧ Below w.heap.size w wr) (fun _ _ i _ => N - (intOf i).toNat)
    case atStart => exact ⟨0, 0, [], [], rfl, rfl, Dx.at_start ts, World.ownsRow_nil _ _ _ _, fun _ _ => SlK.nil _, Below.refl _ _⟩
    case round =>
      obtain ⟨F, k, pre, vs, rfl, rfl, hat, hrow, hsl, hB⟩ := hrel
      have hFk := hat.1
      have hkN := hat.2.1
      rw [← HN.out] at hkN
      have hsB := hB.size
      have HS := Lib.hid hsl
      have hvsl : vs.length = (pre.map (Dx.lnOf ts)).length := (hsl w HV.out).1
      have HVs := Lib.hid hvsl
      clear hsl hvsl
      by_cases hlt : k < N
      · obtain ⟨t, ht⟩ : ∃ t, ts[k]? = some t := ⟨_, List.getElem?_eq_getElem (by rw [← HN.out]; exact hlt)⟩
        have c0 := ((HC.out k t ht).below hB hg).1
        by_cases hkd : t.kind = 7
        · obtain ⟨hat2, hpre, hlen⟩ := Dx.at_cut hat ht hkd
          rw [hkd] at c0
          have hpt := HV.out.part F k hFk (by rw [← HN.out]; exact hkN)
          have hpt2 := (HV.out.below hB).part F k hFk (by rw [← HN.out]; exact hkN)
          have hpW : ∀ W, Ks W (.slice (some ⟨g, o, none⟩) N cap) ts → Ks W (.slice (some ⟨g, o + F * 6, none⟩) (k - F) (cap - F)) ((ts.drop F).take (k - F)) := fun W h => h.part F k hFk (by rw [← HN.out]; exact hkN)
          have htl : ((ts.drop F).take (k - F)).length = k - F := by have := HN.out; rw [List.length_take, List.length_drop]; omega
          obtain ⟨L, hL⟩ : ∃ L, L = Dx.lnOf ts (F, k - F) := ⟨_, rfl⟩
          have hL' : L = Dx.mkLn F ((ts.drop F).take (k - F)) := hL
          obtain ⟨tl, htl'⟩ : ∃ tl, tl = (ts.drop F).take (k - F) := ⟨_, rfl⟩
          rw [← htl'] at hpt2 hpW htl hL'
          have HA := Lib.hid hat2
          have HP := Lib.hid hpt2
          have HPW := Lib.hid hpW
          have HL := Lib.hid hL
          have HL' := Lib.hid hL'
          have Htl := Lib.hid htl
          have z1 : (F : Int) ≤ k := by omega
          have z2 : (k : Int) ≤ cap := by omega
          have z3 : (0 : Int) ≤ F := by omega
          have z4 : ¬ (F = cap) := by omega
          have hpl : pre.length < N := by omega
          clear hat hat2 hpre hlen hpt hpt2 hpW htl hL hL' htl' ht hkd
          go_wp2_with fail
          refine (line_any _ tl F _ HP.out (by rw [Htl.out]; omega)).mono ?_
          rintro e w1 ⟨ad1, cc1, rfl, hsub, hB1⟩
          rw [← HL'.out] at hsub ⊢
          dsimp only [lnAgg]
          rw [Htl.out]
          have hLf : L.first = F := by rw [HL.out]; rfl
          have hLn : L.n = k - F := by rw [HL'.out, ← Htl.out]; rfl
          have hB1w := Below.then hB hB1
          have hrow1 := row_below hrow hB1
          obtain ⟨lk, hlk⟩ : ∃ lk, lk = L.kind := ⟨_, rfl⟩
          obtain ⟨m1, hm1⟩ : ∃ m1, m1 = L.toks.length := ⟨_, rfl⟩
          obtain ⟨d, hd⟩ : ∃ d, d = k - F := ⟨_, rfl⟩
          rw [← hlk, ← hm1, ← hd]
          rw [← hm1] at hsub
          rw [← hd] at hLn
          have HSub := Lib.hid hsub
          have HLk := Lib.hid hlk
          have HLf := Lib.hid hLf
          have HLn := Lib.hid hLn
          have hw1 := hB1w.size
          clear hsub hlk hm1 hd hLf hLn
          go_wp2_with (at_builtin; refine wpList_append_lies _ rfl _ _ 47 rfl w.heap.size 44 i0 _ 4 48 Tryz.underlying47 hi hz0 hz1 hz2 rfl (by omega) _ pre.length _ rfl (hrow1.alloc _) ⟨w1.heap.size, 0, none⟩ 1 1 [.int .i64 lk, .int .i64 F, .int .i64 d, .slice ad1 m1 cc1] rfl rfl (news_line _ _ _ _ _ _) (by simp [Value.oneCell']) (by omega) (by unfold maxLen; omega) (by omega) (by simp; omega) (w1.heap.size + 1) (by simp) ?_; intro g1 cap1 w2 hown hgrow hatg hlt2)
          have hfr : (pre ++ [(F, k - F)]).map (Dx.lnOf ts) = pre.map (Dx.lnOf ts) ++ [L] := by rw [List.map_append, HL.out]; rfl
          have hrow2 : w2.ownsRow w.heap.size 44 4 (.slice (some ⟨g1, 0, none⟩) (pre.length + 1) cap1) (pre ++ [(F, k - F)]).length (lnCells (vs ++ [.slice ad1 m1 cc1]) ((pre ++ [(F, k - F)]).map (Dx.lnOf ts))) := by
            rw [hfr, lnCells_snoc _ _ _ _ HVs.out, HLf.out, HLn.out, ← HLk.out, List.length_append]
            exact hown
          have hsl2 : ∀ W, Ks W (.slice (some ⟨g, o, none⟩) N cap) ts → SlK W (vs ++ [.slice ad1 m1 cc1]) ((pre ++ [(F, k - F)]).map (Dx.lnOf ts)) := fun W h => by
            rw [hfr]
            exact (HS.out W h).snoc (HSub.out W (HPW.out W h))
          have hB2 : Below w.heap.size w w2 := (hB1w.alloc hB1w.size _).grown hgrow (by simp; omega) (fun i ei => (hrow1.lt i ei).1)
          have HR2 := Lib.hid hrow2
          have HS2 := Lib.hid hsl2
          clear hrow2 hsl2 hfr
          go_wp2_with fail
          go_roundw
          case rel => exact ⟨k + 1, k + 1, pre ++ [(F, k - F)], _, by go_num, by go_num, HA.out, HR2.out, HS2.out, hB2⟩
          case measure => simp [intOf]; omega
        · have hat2 := Dx.at_skip hat ht hkd
          have t1 : (t.kind == 7) = false := by simpa using hkd
          have HA := Lib.hid hat2
          clear hat hat2 ht hkd
          go_wp2_with fail
          go_roundw
          case rel => exact ⟨F, k + 1, pre, vs, rfl, by go_num, HA.out, hrow, HS.out, hB⟩
          case measure => simp [intOf]; omega
      · obtain ⟨he1, he2⟩ := Dx.at_endN hat HN.out (by omega)
        have H1 := Lib.hid he1
        have H2 := Lib.hid he2
        have hpl := At.lt hat
        clear he1 he2
        by_cases hf : F < N
        · obtain ⟨hcu, hlen⟩ := H1.out hf
          have hpW : ∀ W, Ks W (.slice (some ⟨g, o, none⟩) N cap) ts → Ks W (.slice (some ⟨g, o + F * 6, none⟩) (N - F) (cap - F)) ((ts.drop F).take (N - F)) := fun W h => h.part F N (by omega) (by rw [← HN.out]; omega)
          have hpt2 := hpW _ (HV.out.below hB)
          have htl : ((ts.drop F).take (N - F)).length = N - F := by have := HN.out; rw [List.length_take, List.length_drop]; omega
          obtain ⟨L, hL⟩ : ∃ L, L = Dx.lnOf ts (F, N - F) := ⟨_, rfl⟩
          have hL' : L = Dx.mkLn F ((ts.drop F).take (N - F)) := hL
          obtain ⟨tl, htl'⟩ : ∃ tl, tl = (ts.drop F).take (N - F) := ⟨_, rfl⟩
          rw [← htl'] at hpt2 hpW htl hL'
          have HCu := Lib.hid hcu
          have HP := Lib.hid hpt2
          have HPW := Lib.hid hpW
          have HL := Lib.hid hL
          have HL' := Lib.hid hL'
          have Htl := Lib.hid htl
          have z1 : (F : Int) ≤ N := by omega
          have z2 : (N : Int) ≤ cap := by omega
          have z3 : (0 : Int) ≤ F := by omega
          have z4 : ¬ (F = cap) := by omega
          have hpl' : pre.length < N := by omega
          clear hat hcu hpt2 hpW htl hL hL' htl' hpl
          go_wp2_with fail
          refine (line_any _ tl F _ HP.out (by rw [Htl.out]; omega)).mono ?_
          rintro e w1 ⟨ad1, cc1, rfl, hsub, hB1⟩
          rw [← HL'.out] at hsub ⊢
          dsimp only [lnAgg]
          rw [Htl.out]
          have hLf : L.first = F := by rw [HL.out]; rfl
          have hLn : L.n = N - F := by rw [HL'.out, ← Htl.out]; rfl
          have hB1w := Below.then hB hB1
          have hrow1 := row_below hrow hB1
          obtain ⟨lk, hlk⟩ : ∃ lk, lk = L.kind := ⟨_, rfl⟩
          obtain ⟨m1, hm1⟩ : ∃ m1, m1 = L.toks.length := ⟨_, rfl⟩
          obtain ⟨d, hd⟩ : ∃ d, d = N - F := ⟨_, rfl⟩
          rw [← hlk, ← hm1, ← hd]
          rw [← hm1] at hsub
          rw [← hd] at hLn
          have HSub := Lib.hid hsub
          have HLk := Lib.hid hlk
          have HLf := Lib.hid hLf
          have HLn := Lib.hid hLn
          have hw1 := hB1w.size
          clear hsub hlk hm1 hd hLf hLn
          go_wp2_with (at_builtin; refine wpList_append_lies _ rfl _ _ 47 rfl w.heap.size 44 i0 _ 4 48 Tryz.underlying47 hi hz0 hz1 hz2 rfl (by omega) _ pre.length _ rfl (hrow1.alloc _) ⟨w1.heap.size, 0, none⟩ 1 1 [.int .i64 lk, .int .i64 F, .int .i64 d, .slice ad1 m1 cc1] rfl rfl (news_line _ _ _ _ _ _) (by simp [Value.oneCell']) (by omega) (by unfold maxLen; omega) (by omega) (by simp; omega) (w1.heap.size + 1) (by simp) ?_; intro g1 cap1 w2 hown hgrow hatg hlt2)
          have hfr : (pre ++ [(F, N - F)]).map (Dx.lnOf ts) = pre.map (Dx.lnOf ts) ++ [L] := by rw [List.map_append, HL.out]; rfl
          have hrow2 : w2.ownsRow w.heap.size 44 4 (.slice (some ⟨g1, 0, none⟩) (pre.length + 1) cap1) (pre ++ [(F, N - F)]).length (lnCells (vs ++ [.slice ad1 m1 cc1]) ((pre ++ [(F, N - F)]).map (Dx.lnOf ts))) := by
            rw [hfr, lnCells_snoc _ _ _ _ HVs.out, HLf.out, HLn.out, ← HLk.out, List.length_append]
            exact hown
          have hsl2 : ∀ W, Ks W (.slice (some ⟨g, o, none⟩) N cap) ts → SlK W (vs ++ [.slice ad1 m1 cc1]) ((pre ++ [(F, N - F)]).map (Dx.lnOf ts)) := fun W h => by
            rw [hfr]
            exact (HS.out W h).snoc (HSub.out W (HPW.out W h))
          have hB2 : Below w.heap.size w w2 := (hB1w.alloc hB1w.size _).grown hgrow (by simp; omega) (fun i ei => (hrow1.lt i ei).1)
          have HR2 := Lib.hid hrow2
          have HS2 := Lib.hid hsl2
          clear hrow2 hsl2 hfr
          go_wp2_with fail
          go_ret
          have e0 : Dx.lines ts = (pre ++ [(F, N - F)]).map (Dx.lnOf ts) := by unfold Dx.lines; rw [HCu.out]
          rw [e0]
          exact ⟨_, rfl, _, by have := HR2.out; rw [List.length_append] at this; rw [List.length_map, List.length_append]; exact this, HS2.out, hB2⟩
        · have hcu := H2.out (by omega)
          have hrow' := hrow
          have e0 : Dx.lines ts = pre.map (Dx.lnOf ts) := by
            unfold Dx.lines
            rw [hcu]
          have HQ := Lib.hid e0
          have HRw : Hid (wr.ownsRow w.heap.size 44 4 u3 pre.length (lnCells vs (pre.map (Dx.lnOf ts)))) := Lib.hid hrow
          clear hat hcu e0
          go_wp2_with fail
          go_ret
          rw [HQ.out]
          exact ⟨_, rfl, vs, by rw [List.length_map]; exact HRw.out, HS.out, hB⟩
theorem rlines_any (v : Value) (ts : List K) (w : World) (hv : Ks w v ts) (hl : ts.length * 56 ≤ 140737488355328) :
    Calls Tryz.prog 33 #[v] w fun e W' => ∃ u, e = .returned u ∧ Lns W' u (Dx.lines ts) ∧ Below w.heap.size w W' :=
  (rlines_row v ts w hv hl).mono fun _ _ ⟨u, h1, _, h2, h3, h4⟩ => ⟨u, h1, Lns.of_row h2 (h3 _ (hv.below h4)), h4⟩
end Go.Proofs.YtdopmmnabhcigaaGreatDoor

/- What is proved: what the document's own lines tells of few and short files: all their lines, in new memory. -/
namespace Go.Proofs.YtdopmmnabhcigaaGreatDoor
open Go.RowKit Go.Shelf

/-! ### 'append' of a list of new memory, which may be of none -/
theorem run_append_nothing {P : Program} (w : World) (t ty e : TypeId) (i : TypeInfo) (ht : P.underlying t = some (.slice e)) (hi : P.info? e = some i) (v : Value) (base size n : Nat) (xs : List Value) (hown : w.ownsRow base e size v n xs) :
    (Builtin.append_ #[t, t] ty #[v, .slice none 0 0]).run P w = .ok v w := by
  rcases hown.2 with ⟨rfl, rfl⟩ | ⟨g, cap, cur, rfl, _, _, h1, _⟩
  · simp [Builtin.append_, run_underlying ht, sizeOf, typeInfo, hi, Builtin.lenOf, Builtin.firstCells, loadCells, loadCellsFrom]
  · simp [Builtin.append_, run_underlying ht, sizeOf, typeInfo, hi, Builtin.lenOf, Builtin.firstCells, loadCells, loadCellsFrom, storeCells, h1]
theorem wpList_append_row {P : Program} {w : World} {ops : Array Oper} {rest : List Oper} {o : Oper} {a : Act} {Q : Exit → Act → World → Prop} (hgd : o.guard = none) (s x : Operand) (t : TypeId)
    (ho : o.op = .call { callee := .builtin .append, args := #[s, x], argTypes := #[t, t] })
    (base b2 : Nat) (e : TypeId) (i : TypeInfo) (z : Value) (size bytes : Nat) (ht : P.underlying t = some (.slice e)) (hi : P.info? e = some i) (hz : i.zero = some z)
    (hsize : i.size = size) (hby : i.bytes = bytes) (hzs : z.cells.size = size) (hsz : 0 < size)
    (v : Value) (n : Nat) (xs : List Value) (hs : a.eval s = v) (hown : w.ownsRow base e size v n xs)
    (u : Value) (m : Nat) (news : List Value) (hx : a.eval x = u) (hu : w.ownsRow b2 e size u m news) (h1 : ∀ y ∈ news, y.oneCell' = true)
    (h63 : n + m ≤ maxLen) (hbytes : (n + m) * bytes ≤ 140737488355328) (hbase : base ≤ w.heap.size)
    (h : ∀ v' w', w'.ownsRow base e size v' (n + m) (xs ++ news) → w.grownBy w' v.ownBlock → (v'.ownBlock = v.ownBlock ∨ v'.ownBlock = some w.heap.size) → wpList P ops Q rest (a.put o.dst v') w') :
    wpList P ops Q (o :: rest) a w := by
  have hcs := fun g => hu.cells (g := g)
  have hul := hu.1
  rcases hu.2 with ⟨rfl, rfl⟩ | ⟨g, cap, cur, rfl, _, _, _, _, _, _⟩
  · obtain rfl : news = [] := List.eq_nil_of_length_eq_zero (by rw [hul]; omega)
    refine wpList_plain hgd fun K hK => ?_
    have hr := run_append_nothing w t o.type e i ht hi v base size n xs hown
    unfold Oper.wp execOp
    simp only [ho, resolve, invoke, builtin, Sem.run_bind, Sem.run_pure, Result.andThen_ok, List.map_toArray, List.map_cons, List.map_nil, hs, hx, hr]
    exact hK _ _ (h _ _ (by rw [List.append_nil]; exact hown) ⟨rfl, rfl, rfl, Nat.le_refl _, fun _ _ _ => rfl⟩ (.inl rfl))
  · exact wpList_append_own_at _ hgd s x t ho base e i z size bytes ht hi hz hsize hby hzs hsz v n xs hs hown ⟨g, 0, none⟩ m cap news hx hul (hcs g rfl) h1 h63 hbytes hbase fun v' w' k1 k2 _ k4 => h v' w' k1 k2 k4

/-! ### Rows of tokens -/
theorem ks_tok (f : Int) (ts : List Lx.T) : ksCells (ts.map (ofT f)) = tokCells f ts := by
  induction ts with
  | nil => rfl
  | cons t r ih => rw [List.map_cons, ksCells, tokCells, ih]; rfl
/-- Tokens that stand in rows of their own, none of them in this block. -/
def Held (B : Nat) (W : World) (ob : Option Nat) (tvs : List (Value × List K)) : Prop := ∀ p ∈ tvs, W.ownsRow B 50 6 p.1 p.2.length (ksCells p.2) ∧ (p.1.ownBlock = none ∨ p.1.ownBlock ≠ ob)
theorem Held.ks {B : Nat} {W : World} {ob : Option Nat} {tvs : List (Value × List K)} (h : Held B W ob tvs) : ∀ p ∈ tvs, Ks W p.1 p.2 := fun p hp => Ks.of_row (h p hp).1
theorem Held.below {B : Nat} {W W' : World} {ob : Option Nat} {tvs : List (Value × List K)} (h : Held B W ob tvs) (hb : Below W.heap.size W W') : Held B W' ob tvs := fun p hp => ⟨row_below (h p hp).1 hb, (h p hp).2⟩
theorem Held.snoc {B : Nat} {W : World} {ob : Option Nat} {tvs : List (Value × List K)} (h : Held B W ob tvs) {v : Value} {ts : List K} (hv : W.ownsRow B 50 6 v ts.length (ksCells ts)) (hne : v.ownBlock = none ∨ v.ownBlock ≠ ob) : Held B W ob (tvs ++ [(v, ts)]) := fun p hp => by
  rcases List.mem_append.1 hp with hp | hp
  · exact h p hp
  · simp at hp; subst hp; exact ⟨hv, hne⟩
theorem Held.grown {B : Nat} {W W' : World} {ob ob' : Option Nat} {tvs : List (Value × List K)} (h : Held B W ob tvs) (hg : W.grownBy W' ob) (ho : ob' = ob ∨ ob' = some W.heap.size) : Held B W' ob' tvs := fun p hp => by
  obtain ⟨h1, h2⟩ := h p hp
  refine ⟨h1.kept hg h2, ?_⟩
  rcases ho with rfl | rfl
  · exact h2
  · cases hb : p.1.ownBlock with
    | none => exact .inl rfl
    | some k => exact .inr fun e => by have := (h1.lt k hb).2; have := Option.some.inj e; omega
theorem SlK.append {W : World} {vs us : List Value} {ls ms : List Ln} (h : SlK W vs ls) (k : SlK W us ms) : SlK W (vs ++ us) (ls ++ ms) := by
  refine ⟨by rw [List.length_append, List.length_append, h.1, k.1], fun i v x h1 h2 => ?_⟩
  rcases Nat.lt_or_ge i vs.length with hi | hi
  · rw [List.getElem?_append_left hi] at h1
    rw [List.getElem?_append_left (by rw [← h.1]; exact hi)] at h2
    exact h.2 i v x h1 h2
  · rw [List.getElem?_append_right hi] at h1
    rw [List.getElem?_append_right (by rw [← h.1]; exact hi), ← h.1] at h2
    exact k.2 _ v x h1 h2
theorem lnCells_length : ∀ (vs : List Value) (ls : List Ln), vs.length = ls.length → (lnCells vs ls).length = ls.length * 4
  | [], [], _ => rfl
  | v :: vs, x :: ls, h => by rw [lnCells, List.length_append, lnCells_length vs ls (by simpa using h)]; simp; omega
theorem lnCells_one {W : World} : ∀ {vs : List Value} {ls : List Ln}, SlK W vs ls → ∀ y ∈ lnCells vs ls, y.oneCell' = true
  | [], ls, _, y, hy => by cases ls <;> cases hy
  | v :: vs, [], _, y, hy => by cases hy
  | v :: vs, x :: ls, h, y, hy => by
    rw [lnCells] at hy
    rcases List.mem_append.1 hy with hy | hy
    · have hv := (h.2 0 v x rfl rfl).2
      simp at hy
      rcases hy with rfl | rfl | rfl | rfl
      · rfl
      · rfl
      · rfl
      · exact hv
    · exact lnCells_one (W := W) ⟨by simpa using h.1, fun i u z h1 h2 => h.2 (i + 1) u z (by simpa using h1) (by simpa using h2)⟩ y hy

namespace Wo
theorem toksFrom_snoc : ∀ (l : Fs) (n : Nat) (f : ByteArray × ByteArray), toksFrom n (l ++ [f]) = toksFrom n l ++ [toks (n + l.length) f.2]
  | [], n, f => rfl
  | g :: l, n, f => by
    rw [List.cons_append, toksFrom, toksFrom_snoc l (n + 1) f, toksFrom, List.cons_append, List.length_cons, show n + 1 + l.length = n + (l.length + 1) by omega]
theorem lns_snoc (l : Fs) (f : ByteArray × ByteArray) : lns (l ++ [f]) = lns l ++ Dx.lines (toks l.length f.2) := by
  unfold lns
  rw [toksFrom_snoc, List.flatMap_append, Nat.zero_add]
  simp
theorem small_take {fs : Fs} (h : Small fs) (k : Nat) : Small (fs.take k) := ⟨by rw [List.length_take]; have := h.1; omega, fun f hf => h.2 f (List.mem_of_mem_take hf)⟩
end Wo

set_option maxRecDepth 100000 in
set_option maxHeartbeats 8000000 in
theorem r11lines_any (v : Value) (fs : Wo.Fs) (hsm : Wo.Small fs) (w : World) (hv : Fls w v fs) :
    Calls Tryz.prog 21 #[v] w fun e W' => ∃ u, e = .returned u ∧ Lns W' u (Wo.lns fs) ∧ Below w.heap.size w W' := by
  obtain ⟨i0, hi, hz0, hz1, hz2⟩ := info_parts infoLn
  obtain ⟨ad, cap, rfl, hc1, hc2, -⟩ := id hv
  unfold maxLen at hc2
  obtain ⟨N, hN⟩ : ∃ N, N = fs.length := ⟨_, rfl⟩
  rw [← hN] at hc1 ⊢
  have HV : Hid (Fls w (.slice ad N cap) fs) := Lib.hid (by rw [hN]; exact hv)
  have HN := Lib.hid hN
  have HSm := Lib.hid hsm
  clear hv hN hsm
  go_enter Tryz.func21, Tryz.ntmps21
  go_wp2_with fail
  go_loopw [3, 4] (fun o i wr => ∃ (k : Nat) (vs : List Value) (tvs : List (Value × List K)), i = .int .i64 k ∧ k ≤ N ∧ wr.ownsRow w.heap.size 44 4 o (Wo.lns (fs.take k)).length (lnCells vs (Wo.lns (fs.take k))) ∧
      Held w.heap.size wr o.ownBlock tvs ∧ (∀ W, (∀ p ∈ tvs, Ks W p.1 p.2) → SlK W vs (Wo.lns (fs.take k))) ∧ Below w.heap.size w wr) (fun _ i _ => N - (intOf i).toNat)
  case atStart => exact ⟨0, [], [], rfl, Nat.zero_le _, World.ownsRow_nil _ _ _ _, (by intro p hp; simp at hp), fun _ _ => SlK.nil _, Below.refl _ _⟩
  case round =>
    obtain ⟨k, vs, tvs, rfl, hk, hrow, hheld, hsl, hB⟩ := hrel
    by_cases hlt : k < N
    · obtain ⟨f, hf⟩ : ∃ f, fs[k]? = some f := ⟨_, List.getElem?_eq_getElem (by rw [← HN.out]; exact hlt)⟩
      obtain ⟨g, o, rfl, -, -, -, hg, hcell⟩ := HV.out.cells (by rw [← HN.out]; omega)
      obtain ⟨-, c1⟩ := hcell k f hf
      have d1 := (hB.cell (p := ⟨g, o + k * 2 + 1, none⟩) hg).trans c1
      have hfz := (HSm.out.2 f (List.mem_of_getElem? hf)).1
      have hfp := (HSm.out.2 f (List.mem_of_getElem? hf)).2
      have hto : Wo.lns (fs.take (k + 1)) = Wo.lns (fs.take k) ++ Dx.lines (Wo.toks k f.2) := by
        rw [List.take_add_one, hf]
        have hkl : (fs.take k).length = k := by rw [List.length_take, ← HN.out]; omega
        have := Wo.lns_snoc (fs.take k) f
        rw [hkl] at this
        exact this
      have hbound := (Wo.lns_small (Wo.small_take HSm.out (k + 1))).1
      rw [hto, List.length_append] at hbound
      obtain ⟨pa, tx⟩ := f
      dsimp only at d1 hfz hfp hto hbound
      have HFp := Lib.hid hfp
      have HTo := Lib.hid hto
      have HRow := Lib.hid hrow
      have HHd := Lib.hid hheld
      have HSl := Lib.hid hsl
      have HB := Lib.hid hB
      have z1 : (0 : Int) ≤ k := by omega
      have z2 : (k : Int) < N := by omega
      clear hf hcell c1 hto hrow hheld hsl hB hfp
      go_wp2_with fail
      refine (rtokens_row k tx (by omega) _).mono ?_
      rintro e w1 ⟨tv, rfl, htv0, hB1⟩
      rw [← ks_tok, show (Lx.tk false (Sp.left 0 tx.data.toList)).length = ((Lx.tk false (Sp.left 0 tx.data.toList)).map (ofT k)).length from (List.length_map _).symm] at htv0
      have htv : w1.ownsRow wr.heap.size 50 6 tv (Wo.toks k tx).length (ksCells (Wo.toks k tx)) := htv0
      have hks := Ks.of_row htv
      have htl := (Wo.toksFrom_sizes [(pa, tx)] k (fun f hf => by
        simp at hf
        subst hf
        exact ⟨hfz, by have := HFp.out; omega⟩) (Wo.toks k tx) (by simp [Wo.toksFrom])).1
      have HTv := Lib.hid htv
      have HB1 := Lib.hid hB1
      clear htv0 htv hB1
      go_wp2_with fail
      refine (rlines_row tv (Wo.toks k tx) _ hks (by omega)).mono ?_
      rintro e w2 ⟨u, rfl, us, hu, hus, hB2⟩
      obtain ⟨nl, hnl⟩ : ∃ nl, nl = (Dx.lines (Wo.toks k tx)).length := ⟨_, rfl⟩
      obtain ⟨nm, hnm⟩ : ∃ nm, nm = (Wo.lns (fs.take k)).length := ⟨_, rfl⟩
      have hone := lnCells_one (hus _ hks)
      have hB12 : Below wr.heap.size wr w2 := Below.then HB1.out hB2
      have hrow2 := row_below HRow.out hB12
      have htv2 := row_below HTv.out hB2
      have hheld2 := HHd.out.below hB12
      rw [← hnl] at hu hbound
      rw [← hnm] at hrow2 hbound
      have HNl := Lib.hid hnl
      have HNm := Lib.hid hnm
      have HUs := Lib.hid hus
      have HTv2 := Lib.hid htv2
      have HHd2 := Lib.hid hheld2
      have HB12 := Lib.hid hB12
      have HL := Lib.hid (HRow.out.lt)
      have hbs : w.heap.size ≤ w2.heap.size := by have := HB.out.size; have := hB12.size; omega
      clear hnl hnm hus hks htl hB2 hB12 htv2 hheld2 HTv HB1 HRow HHd
      go_wp2_with (first
        | (at_builtin; refine wpList_append_row rfl _ _ 47 rfl w.heap.size w1.heap.size 44 i0 _ 4 48 Tryz.underlying47 hi hz0 hz1 hz2 rfl (by omega) _ nm _ rfl hrow2 _ nl _ rfl hu hone (by unfold maxLen; omega) (by omega) hbs ?_; intro v3 w3 hown3 hg3 hne3; go_frame)
        | fail)
      go_roundw
      case rel =>
        have b0 : Below w.heap.size w w2 := Below.then HB.out HB12.out
        refine ⟨k + 1, vs ++ us, tvs ++ [(tv, Wo.toks k tx)], by go_num, by omega, ?_, ?_, fun W hW => ?_, b0.grown hg3 hbs (fun i ei => (HL.out i ei).1)⟩
        · have e1 := (HSl.out _ HHd2.out.ks).1
          rw [HTo.out, List.length_append, ← HNl.out, ← HNm.out, lnCells_append _ _ _ _ e1]
          exact hown3
        · have hne : tv.ownBlock = none ∨ tv.ownBlock ≠ u3.ownBlock := by
            cases hb : tv.ownBlock with
            | none => exact .inl rfl
            | some q =>
              refine .inr fun e => ?_
              have e1 := (HTv2.out.lt q hb).1
              have e2 := (HL.out q e.symm).2
              omega
          exact (HHd2.out.snoc (row_mono HTv2.out HB.out.size) hne).grown hg3 hne3
        · rw [HTo.out]
          exact (HSl.out W fun p hp => hW p (List.mem_append_left _ hp)).append (HUs.out W (hW (tv, Wo.toks k tx) (List.mem_append_right _ (List.mem_singleton.2 rfl))))
      case measure => simp [intOf]; omega
    · obtain rfl : k = N := by omega
      have hto : fs.take k = fs := List.take_of_length_le (by rw [← HN.out]; exact Nat.le_refl _)
      rw [hto] at hrow hsl
      have HQ := Lib.hid (Lns.of_row hrow (hsl _ hheld.ks))
      clear hto hrow hsl hheld
      go_wp2_with fail
      go_ret
      exact ⟨_, rfl, HQ.out, hB⟩
end Go.Proofs.YtdopmmnabhcigaaGreatDoor

/- What is proved: what the document's own Known tells of few and short files. -/
namespace Go.Proofs.YtdopmmnabhcigaaGreatDoor
open Go.RowKit Go.Shelf

namespace Wo
theorem knownL_take {ls : List Ln} {k : Nat} {x : Ln} (h : ls[k]? = some x) : knownL (ls.take (k + 1)) = knownL (ls.take k) ++ defs x := by
  unfold knownL
  rw [List.take_add_one, h, List.flatMap_append]
  simp
theorem defs_len (x : Ln) : (defs x).length ≤ 1 := by
  unfold defs
  split
  · unfold words
    have h1 := List.length_filter_le (fun t : K => t.kind == 1) (x.toks.take 1)
    have h2 := List.length_take_le 1 x.toks
    rw [List.length_map]
    omega
  · simp
theorem knownL_len : ∀ (ls : List Ln), (knownL ls).length ≤ ls.length
  | [] => by simp [knownL]
  | x :: ls => by
    have h1 := defs_len x
    have h2 := knownL_len ls
    unfold knownL at h2 ⊢
    rw [List.flatMap_cons, List.length_append, List.length_cons]
    omega
theorem srt_app (l m : List ByteArray) : srt (l ++ m) = m.foldl put (srt l) := by unfold srt; rw [List.foldl_append]
end Wo

set_option maxRecDepth 100000 in
set_option maxHeartbeats 8000000 in
theorem rknown_any (v : Value) (fs : Wo.Fs) (hsm : Wo.Small fs) (w : World) (hv : Fls w v fs) :
    Calls Tryz.prog 12 #[v] w fun e W' => ∃ u, e = .returned u ∧ Sts W' u (Wo.known fs) ∧ Below w.heap.size w W' := by
  obtain ⟨ad, cap, rfl, hc1, hc2, -⟩ := id hv
  unfold maxLen at hc2
  have k0 := r11lines_any _ fs hsm w hv
  obtain ⟨hb1, hb2⟩ := Wo.lns_small hsm
  have HB1 := Lib.hid hb1
  have HB2 := Lib.hid hb2
  clear hb1 hb2 hv hsm
  go_enter Tryz.func12, Tryz.ntmps12
  go_wp2_with fail
  refine k0.mono ?_
  clear k0
  rintro e w1 ⟨lv, rfl, hl, hBl⟩
  obtain ⟨lad, lcap, rfl, hl1, hl2, -⟩ := id hl
  unfold maxLen at hl2
  obtain ⟨ls, hls⟩ : ∃ ls, ls = Wo.lns fs := ⟨_, rfl⟩
  obtain ⟨N, hN⟩ : ∃ N, N = ls.length := ⟨_, rfl⟩
  rw [← hls] at HB1 HB2 hl hl1 ⊢
  rw [← hN] at HB1 hl1 ⊢
  have HL : Hid (Lns w1 (.slice lad N lcap) ls) := Lib.hid (by rw [hN]; exact hl)
  have HN := Lib.hid hN
  have HLs := Lib.hid hls
  have HBl := Lib.hid hBl
  clear hls hN hl hBl
  go_wp2_with fail
  go_loopw [3, 5] (fun o i wr => ∃ k : Nat, i = .int .i64 k ∧ k ≤ N ∧ Sts wr o (Wo.srt (Wo.knownL (ls.take k))) ∧ Below w1.heap.size w1 wr) (fun _ i _ => N - (intOf i).toNat)
  case atStart => exact ⟨0, rfl, Nat.zero_le _, Sts.none_at _ _ _ (Nat.zero_le _), Below.refl _ _⟩
  case round =>
    obtain ⟨k, rfl, hk, ho, hB⟩ := hrel
    by_cases hlt : k < N
    · obtain ⟨x, hx⟩ : ∃ x, ls[k]? = some x := ⟨_, List.getElem?_eq_getElem (by rw [← HN.out]; exact hlt)⟩
      obtain ⟨g, o, rfl, -, -, -, hg, hcell⟩ := (HL.out.below hB).cells (by rw [← HN.out]; omega)
      obtain ⟨tv, c0, -, -, c3, hks⟩ := hcell k x hx
      have hto := Wo.knownL_take hx
      obtain ⟨ta, tc, rfl, ht1, ht2, -⟩ := id hks
      unfold maxLen at ht2
      obtain ⟨M, hM⟩ : ∃ M, M = x.toks.length := ⟨_, rfl⟩
      have hks' : Ks wr (.slice ta M tc) x.toks := by rw [hM]; exact hks
      have htz := HB2.out x (List.mem_of_getElem? hx)
      rw [← hM] at c3 ht1
      obtain ⟨kd, hkd⟩ : ∃ kd, kd = x.kind := ⟨_, rfl⟩
      rw [← hkd] at c0
      have hkn : (Wo.knownL (ls.take k)).length ≤ 1000000000 := by
        have h1 := Wo.knownL_len (ls.take k)
        have h2 : (ls.take k).length ≤ 7000 := by rw [List.length_take, ← HN.out]; have := HB1.out; omega
        omega
      have hsl := Nat.le_trans (Wo.srt_len (Wo.knownL (ls.take k))) hkn
      have HO := Lib.hid ho
      have HB := Lib.hid hB
      have z1 : (0 : Int) ≤ k := by omega
      have z2 : (k : Int) < N := by omega
      by_cases h89 : kd = 8 ∨ kd = 9
      · have hdf : Wo.defs x = Wo.words (x.toks.take 1) := by unfold Wo.defs; rw [if_pos (by rw [← hkd]; exact h89)]
        rw [hdf] at hto
        rcases Nat.eq_zero_or_pos M with h0 | h0
        · obtain rfl : M = 0 := h0
          have htn : x.toks = [] := List.length_eq_zero_iff.1 hM.symm
          rw [htn] at hto
          have HTo : Hid (Wo.knownL (ls.take (k + 1)) = Wo.knownL (ls.take k)) := Lib.hid (by rw [hto]; simp [Wo.words])
          clear hx hcell hto hdf hM hkd hks hks' ho hB htz htn hkn hsl ht1
          rcases h89 with rfl | rfl
          all_goals
            go_wp2_with fail
            go_roundw
            case rel => exact ⟨k + 1, by go_num, by omega, by rw [HTo.out]; exact HO.out, HB.out⟩
            case measure => simp [intOf]; omega
        · obtain ⟨g2, o2, rfl, -, -, -, hg2, hk2⟩ := hks'.cells (by omega)
          obtain ⟨t, ht⟩ : ∃ t, x.toks[0]? = some t := ⟨_, List.getElem?_eq_getElem (by omega)⟩
          obtain ⟨d0, d1, -, -, -, -⟩ := hk2 0 t ht
          rw [Nat.zero_mul, Nat.add_zero] at d0 d1
          have htk : x.toks.take 1 = [t] := by rw [List.take_one]; rw [List.head?_eq_getElem?, ht]; rfl
          rw [htk] at hto
          have z3 : 0 < M := h0
          have z4 : (0 : Int) < M := by omega
          by_cases h1 : t.kind = 1
          · have HTo : Hid (Wo.knownL (ls.take (k + 1)) = Wo.knownL (ls.take k) ++ [t.text]) := Lib.hid (by rw [hto]; simp [Wo.words, h1])
            rw [h1] at d0
            have k1 := rput_any u3 _ t.text hsl _ HO.out
            clear hx hcell hto hdf hM hkd hks hks' ho hB htz htk hkn hsl ht hk2 h1 h0
            rcases h89 with rfl | rfl
            all_goals
              go_wp2_with fail
              refine k1.mono ?_
              clear k1
              rintro e w2 ⟨u, rfl, hu, hB2⟩
              have HU := Lib.hid hu
              have HB2' := Lib.hid (Below.then HB.out hB2)
              clear hu hB2
              go_wp2_with fail
              go_roundw
              case rel => exact ⟨k + 1, by go_num, by omega, by rw [HTo.out, Wo.srt_snoc]; exact HU.out, HB2'.out⟩
              case measure => simp [intOf]; omega
          · have HTo : Hid (Wo.knownL (ls.take (k + 1)) = Wo.knownL (ls.take k)) := Lib.hid (by rw [hto]; simp [Wo.words, h1])
            have t1 : (t.kind == 1) = false := by simpa using h1
            clear hx hcell hto hdf hM hkd hks hks' ho hB htz htk hkn hsl ht hk2 h1 h0
            rcases h89 with rfl | rfl
            all_goals
              go_wp2_with fail
              go_roundw
              case rel => exact ⟨k + 1, by go_num, by omega, by rw [HTo.out]; exact HO.out, HB.out⟩
              case measure => simp [intOf]; omega
      · have hdf : Wo.defs x = [] := by unfold Wo.defs; rw [if_neg (by rw [← hkd]; exact h89)]
        have HTo : Hid (Wo.knownL (ls.take (k + 1)) = Wo.knownL (ls.take k)) := Lib.hid (by rw [hto, hdf, List.append_nil])
        have t1 : (kd == 8) = false := by simpa using fun h => h89 (.inl h)
        have t2 : (kd == 9) = false := by simpa using fun h => h89 (.inr h)
        clear hx hcell hto hdf hM hkd hks hks' ho hB htz hkn hsl h89
        go_wp2_with fail
        go_roundw
        case rel => exact ⟨k + 1, by go_num, by omega, by rw [HTo.out]; exact HO.out, HB.out⟩
        case measure => simp [intOf]; omega
    · obtain rfl : k = N := by omega
      have hte : ls.take k = ls := List.take_of_length_le (by rw [← HN.out]; exact Nat.le_refl _)
      rw [hte, HLs.out] at ho
      have HO : Hid (Sts wr u3 (Wo.known fs)) := Lib.hid ho
      have HB := Lib.hid (Below.then HBl.out hB)
      clear ho hte hB
      go_wp2_with fail
      go_ret
      exact ⟨_, rfl, HO.out, HB.out⟩
end Go.Proofs.YtdopmmnabhcigaaGreatDoor
