/- What is proved: what sign, closes, begins and the library's Clone and IndexFunc tell of any tokens. -/
import Derived.Test.YtnkheejpmkflaaaDoorD1
import Derived.Lib.SliceRun
namespace Go.Proofs.YtnkheejpmkflaaaDoor
open Go.RowKit Go.Shelf

set_option maxHeartbeats 4000000 in
set_option maxRecDepth 100000 in
theorem dsign_any (t : K) (s : ByteArray) (w : World) : Calls Tryd.prog 38 #[kAgg t, .string s] w fun e w' => e = .returned (.bool (Dx.isSign t s)) ∧ Below w.heap.size w w' := by
  obtain ⟨k, tx, f, a, b, bl⟩ := t
  dsimp only [kAgg]
  by_cases h1 : k = 5
  · subst h1
    by_cases h2 : tx = s
    · have t2 : (tx.toList == s.toList) = true := by rw [ba_beq]; simpa using h2
      have e : Dx.isSign ⟨5, tx, f, a, b, bl⟩ s = true := by simp [Dx.isSign, h2]
      rw [e]
      clear h2 e
      go_enter Tryd.func38, Tryd.ntmps38
      go_wp2_with fail
      go_ret
      exact ⟨rfl, (Below.refl _ _).alloc (Nat.le_refl _) _⟩
    · have t2 : (tx.toList == s.toList) = false := by rw [ba_beq]; simpa using h2
      have e : Dx.isSign ⟨5, tx, f, a, b, bl⟩ s = false := by simp [Dx.isSign, h2]
      rw [e]
      clear h2 e
      go_enter Tryd.func38, Tryd.ntmps38
      go_wp2_with fail
      go_ret
      exact ⟨rfl, (Below.refl _ _).alloc (Nat.le_refl _) _⟩
  · have t1 : (k == 5) = false := by simpa using h1
    have e : Dx.isSign ⟨k, tx, f, a, b, bl⟩ s = false := by simp [Dx.isSign, h1]
    rw [e]
    clear h1 e
    go_enter Tryd.func38, Tryd.ntmps38
    go_wp2_with fail
    go_ret
    exact ⟨rfl, (Below.refl _ _).alloc (Nat.le_refl _) _⟩

set_option maxHeartbeats 4000000 in
set_option maxRecDepth 100000 in
theorem closes_any (t : K) (w : World) : Calls Tryd.prog 58 #[kAgg t] w fun e w' => e = .returned (.bool (Dx.isSign t ⟨#[62]⟩)) ∧ Below w.heap.size w w' := by
  obtain ⟨k, tx, f, a, b, bl⟩ := t
  have key := dsign_any ⟨k, tx, f, a, b, bl⟩ ⟨#[62]⟩
  dsimp only [kAgg] at key ⊢
  obtain ⟨R, hR⟩ : ∃ R, R = Dx.isSign ⟨k, tx, f, a, b, bl⟩ ⟨#[62]⟩ := ⟨_, rfl⟩
  rw [← hR] at key ⊢
  clear hR
  go_enter Tryd.func58, Tryd.ntmps58
  go_wp2_with fail
  refine (key _).mono ?_
  rintro e w' ⟨rfl, hB⟩
  go_wp2_with fail
  go_ret
  exact ⟨rfl, Below.then ((Below.refl _ w).alloc (Nat.le_refl _) _) hB⟩

theorem eql_toks (w : World) (a : Option Addr) (n c n' c' : Nat) : (binOp .eql 25 (.slice a n c) (.slice none n' c')).run Tryd.prog w = .ok (.bool a.isNone) w := Lib.run_eql_slice_nil w _ _ a n c n' c' Tryd.underlying25

/-- The cells of tokens, one behind the other. -/
theorem Ks.row {W : World} {g o n cap : Nat} {ts : List K} (h : Ks W (.slice (some ⟨g, o, none⟩) n cap) ts) : ∀ j u, (ksCells ts)[j]? = some u → W.cell? ⟨g, o + j, none⟩ = some u := by
  intro j u hj
  have hlt := (List.getElem?_eq_some_iff.1 hj).1
  rw [ksCells_length] at hlt
  have hi : j / 6 < ts.length := by omega
  obtain ⟨g', o', e, c⟩ : ∃ g' o', (some (⟨g, o, none⟩ : Addr)) = some ⟨g', o', none⟩ ∧ KAt W g' (o' + j / 6 * 6) ts[j / 6] := by
    obtain ⟨ad', cap', e, _, _, h3⟩ := h
    injection e with e1 e2 e3
    subst e1
    exact h3 _ _ (List.getElem?_eq_getElem hi)
  injection e with e
  injection e with e1 e2
  subst e1 e2
  have hm : j % 6 < 6 := Nat.mod_lt _ (by omega)
  have hj6 : j = j / 6 * 6 + j % 6 := by omega
  obtain ⟨t, ht⟩ : ∃ t, t = ts[j / 6] := ⟨_, rfl⟩
  rw [← ht] at c
  have hg : ts[j / 6]? = some t := by rw [ht]; exact List.getElem?_eq_getElem hi
  obtain ⟨q, hq⟩ : ∃ q, q = j / 6 := ⟨_, rfl⟩
  obtain ⟨r, hr⟩ : ∃ r, r = j % 6 := ⟨_, rfl⟩
  rw [← hq] at c hg hj6
  rw [← hr] at hm hj6
  clear hq hr ht hi hlt
  subst hj6
  have key := fun v hv => ksCells_get ts q t hg r v hv
  have hr6 : r < (kCells t).length := hm
  have e3 := key _ (List.getElem?_eq_getElem hr6)
  rw [hj] at e3
  obtain rfl := Option.some.inj e3
  obtain ⟨c0, c1, c2, c3, c4, c5⟩ := c
  have h6 : r = 0 ∨ r = 1 ∨ r = 2 ∨ r = 3 ∨ r = 4 ∨ r = 5 := by omega
  rw [← Nat.add_assoc]
  rcases h6 with rfl | rfl | rfl | rfl | rfl | rfl
  · exact c0
  · exact c1
  · exact c2
  · exact c3
  · exact c4
  · exact c5

set_option maxHeartbeats 4000000 in
set_option maxRecDepth 100000 in
/-- Clone: new memory that holds the same tokens. -/
theorem clone_any (v : Value) (ts : List K) (w : World) (hv : Ks w v ts) (hl : ts.length * 56 ≤ 140737488355328) :
    Calls Tryd.prog 24 #[v] w fun e w' => ∃ u, e = .returned u ∧ w'.ownsRow w.heap.size 40 6 u ts.length (ksCells ts) ∧ Below w.heap.size w w' := by
  obtain ⟨i0, hi, hz0, hz1, hz2⟩ := info_parts infoTok
  obtain ⟨ad, cap, rfl, hc1, hc2, hc3⟩ := id hv
  cases ad with
  | none =>
    have h0 : ts = [] := by
      cases ts with
      | nil => rfl
      | cons t r => obtain ⟨g, o, e, _⟩ := hc3 0 t rfl; cases e
    subst h0
    have q := eql_toks
    clear hv hc3
    go_enter Tryd.func24, Tryd.ntmps24
    go_wp2_with fail
    go_ret
    exact ⟨_, rfl, World.ownsRow_nil _ _ _ _, Below.refl _ _⟩
  | some a =>
    have q := eql_toks
    have hrow : ∀ j u, (ksCells ts)[j]? = some u → w.cell? (a.add j) = some u := by
      intro j u hj
      have hlt := (List.getElem?_eq_some_iff.1 hj).1
      rw [ksCells_length] at hlt
      obtain ⟨g, o, e, _⟩ := hc3 0 _ (List.getElem?_eq_getElem (by omega))
      injection e with e
      subst e
      rw [add_none]
      exact hv.row j u hj
    have HR := Lib.hid hrow
    obtain ⟨n, hn⟩ : ∃ n, n = ts.length := ⟨_, rfl⟩
    rw [← hn] at hl hc1 ⊢
    have Hn := Lib.hid hn
    clear hv hc3 hrow hn
    go_enter Tryd.func24, Tryd.ntmps24
    go_wp2_with (at_builtin; refine wpList_append_own _ rfl _ _ 25 rfl w.heap.size 40 i0 _ 6 56 Tryd.underlying25 hi hz0 hz1 hz2 rfl (by decide) _ _ _ rfl (World.ownsRow_made w #[] 0 (Nat.le_refl _) (Nat.zero_le _) rfl) a n cap (ksCells ts) rfl ?qc1 ?qc2 ?qc3 ?qc4 ?qc5 ?qc6 ?_)
    case qc1 => rw [ksCells_length, Hn.out]
    case qc2 => intro j u hj; exact Lib.cell?_alloc_some _ (HR.out j u hj)
    case qc3 => exact ksCells_one ts
    case qc4 => unfold maxLen; omega
    case qc5 => omega
    case qc6 => simp
    intro v' w1 hown hgrow hnil
    go_wp2_with fail
    go_ret
    exact ⟨v', rfl, hown, ((Below.refl _ w).alloc (Nat.le_refl _) _).grown hgrow (by simp) (by intro k hk; simp [Value.ownBlock] at hk; omega)⟩

set_option maxHeartbeats 4000000 in
set_option maxRecDepth 100000 in
theorem begins_any (v : Value) (ts : List K) (w : World) (hv : Ks w v ts) (hl : ts.length * 56 ≤ 140737488355328) (hG : Glob w) :
    Calls Tryd.prog 23 #[v] w fun e w' => e = .returned (.tuple #[.int .i64 (Dx.begins ts).1, .int .i64 (Dx.begins ts).2]) ∧ Below w.heap.size w w' := by
  obtain ⟨ad, cap, rfl, hc1, hc2, hc3⟩ := id hv
  have HG := Lib.hid hG
  clear hG
  match ts, hv, hl with
  | [], hv, hl =>
    clear hv hc3
    go_enter Tryd.func23, Tryd.ntmps23
    go_wp2_with fail
    go_ret2
    exact ⟨rfl, Below.refl _ _⟩
  | t :: r, hv, hl =>
    obtain ⟨g, o, rfl, -, -, -, hg, hcell⟩ := hv.cells (by simp)
    have c := hcell 0 t rfl
    have key := dsign_any t ⟨#[35]⟩
    cases hs : Dx.isSign t ⟨#[35]⟩ with
    | false =>
      rw [Dx.begins_no t r hs]
      rw [hs] at key
      obtain ⟨k, tx, f, a, b, bl⟩ := t
      obtain ⟨c0, c1, c2, c3, c4, c5⟩ := c
      dsimp only [kAgg] at key c0 c1 c2 c3 c4 c5
      simp only [Nat.zero_mul, Nat.add_zero] at c0 c1 c2 c3 c4 c5
      simp only [List.length_cons] at hl hc1 ⊢
      obtain ⟨n, hn⟩ : ∃ n, n = r.length := ⟨_, rfl⟩
      rw [← hn] at hl hc1 ⊢
      clear hv hc3 hs hcell hn
      go_enter Tryd.func23, Tryd.ntmps23
      go_wp2_with fail
      refine (key _).mono ?_
      rintro e w' ⟨rfl, hB⟩
      go_wp2_with fail
      go_ret2
      exact ⟨rfl, hB⟩
    | true =>
      rw [hs] at key
      cases r with
      | nil =>
        rw [Dx.begins_one t hs]
        obtain ⟨k, tx, f, a, b, bl⟩ := t
        obtain ⟨c0, c1, c2, c3, c4, c5⟩ := c
        dsimp only [kAgg] at key c0 c1 c2 c3 c4 c5
        simp only [Nat.zero_mul, Nat.add_zero] at c0 c1 c2 c3 c4 c5
        simp only [List.length_cons, List.length_nil] at hl hc1 ⊢
        clear hv hc3 hs hcell
        go_enter Tryd.func23, Tryd.ntmps23
        go_wp2_with fail
        refine (key _).mono ?_
        rintro e w' ⟨rfl, hB⟩
        go_wp2_with fail
        go_ret2
        exact ⟨rfl, hB⟩
      | cons u r =>
        have d := hcell 1 u rfl
        rw [Dx.begins_two t u r hs]
        obtain ⟨q, hq⟩ : ∃ q, q = Dx.kindOf u.text := ⟨_, rfl⟩
        rw [← hq]
        have HQ := Lib.hid hq
        obtain ⟨k, tx, f, a, b, bl⟩ := t
        obtain ⟨c0, c1, c2, c3, c4, c5⟩ := c
        obtain ⟨uk, utx, uf, ua, ub, ubl⟩ := u
        obtain ⟨d0, d1, -, -, -, -⟩ := d
        dsimp only [kAgg] at key c0 c1 c2 c3 c4 c5 d0 d1 HQ ⊢
        simp only [Nat.zero_mul, Nat.add_zero, Nat.reduceMul] at c0 c1 c2 c3 c4 c5 d0 d1
        simp only [List.length_cons] at hl hc1 ⊢
        obtain ⟨n, hn⟩ : ∃ n, n = r.length := ⟨_, rfl⟩
        rw [← hn] at hl hc1 ⊢
        clear hv hc3 hs hcell hn hq
        have z1 : ((n : Int) + 1 + 1 == 1) = false := by simp; omega
        have z2 : ((n : Int) + 1 + 1 == 0) = false := by simp; omega
        by_cases hk : uk = 1
        · subst hk
          by_cases hq0 : q = 0
          · subst hq0
            rw [if_neg (by simp)]
            go_enter Tryd.func23, Tryd.ntmps23
            go_wp2_with fail
            refine (key _).mono ?_
            rintro e w' ⟨rfl, hB⟩
            have d0' := (hB.cell (p := ⟨g, o + 6, none⟩) hg).trans d0
            have d1' := (hB.cell (p := ⟨g, o + 6 + 1, none⟩) hg).trans d1
            clear c0 c1 c2 c3 c4 c5 d0 d1
            go_wp2_with fail
            refine (kind_any utx _ (HG.out.later hB)).mono ?_
            rintro e w'' ⟨rfl, rfl⟩
            rw [← HQ.out]
            go_wp2_with fail
            go_ret2
            exact ⟨rfl, hB⟩
          · rw [if_pos ⟨rfl, hq0⟩]
            have t3 : (q != 0) = true := by simpa using hq0
            go_enter Tryd.func23, Tryd.ntmps23
            go_wp2_with fail
            refine (key _).mono ?_
            rintro e w' ⟨rfl, hB⟩
            have d0' := (hB.cell (p := ⟨g, o + 6, none⟩) hg).trans d0
            have d1' := (hB.cell (p := ⟨g, o + 6 + 1, none⟩) hg).trans d1
            clear c0 c1 c2 c3 c4 c5 d0 d1
            go_wp2_with fail
            refine (kind_any utx _ (HG.out.later hB)).mono ?_
            rintro e w'' ⟨rfl, rfl⟩
            rw [← HQ.out]
            go_wp2_with fail
            go_ret2
            exact ⟨rfl, hB⟩
        · rw [if_neg (fun h => hk h.1)]
          have t3 : (uk == 1) = false := by simpa using hk
          go_enter Tryd.func23, Tryd.ntmps23
          go_wp2_with fail
          refine (key _).mono ?_
          rintro e w' ⟨rfl, hB⟩
          have d0' := (hB.cell (p := ⟨g, o + 6, none⟩) hg).trans d0
          clear c0 c1 c2 c3 c4 c5 d0 d1
          go_wp2_with fail
          go_ret2
          exact ⟨rfl, hB⟩
end Go.Proofs.YtnkheejpmkflaaaDoor
