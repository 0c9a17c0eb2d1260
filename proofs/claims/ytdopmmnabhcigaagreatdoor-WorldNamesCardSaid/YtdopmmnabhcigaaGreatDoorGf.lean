/- What is proved: what sign, closes, begins and the library's Clone and IndexFunc tell of any tokens. (and what stands with it) -/
import Derived.Test.YtdopmmnabhcigaaGreatDoorGe
import Derived.Lib.SliceRun
import Derived.Maps.AppendAt
import Derived.Deep.RegionHeld
import Derived.Deep.AppendLies
import Derived.Maps.OwnSet
import Derived.Maps.OwnIn
import Derived.Maps.RangeWalk
import Derived.Sort.MapsRangeIn
import Derived.Sort.OwnSorted
import Derived.Test.YtdopmmnabhcigaaGreatDoorRows
import Derived.Test.YtdopmmnabhcigaaGreatDoorTie
import Derived.Test.YtdopmmnabhcigaaGreatDoorCards
import Derived.Deep.Strs
import Derived.SizedLaws
import Derived.HandedShaped
import Derived.ProofKit
import Derived.Deep.Slices
import Derived.Deep.Fields
import Derived.OpenShut
import Derived.LaidMore
import Derived.Stop.Joined
import Derived.SevenTiedAt
import Derived.MakeChecks

/- What is proved: what sign, closes, begins and the library's Clone and IndexFunc tell of any tokens. -/
namespace Go.Proofs.YtdopmmnabhcigaaGreatDoor
open Go.RowKit Go.Shelf

set_option maxHeartbeats 4000000 in
set_option maxRecDepth 100000 in
theorem dsign_any (t : K) (s : ByteArray) (w : World) : Calls Tryz.prog 57 #[kAgg t, .string s] w fun e w' => e = .returned (.bool (Dx.isSign t s)) ∧ Below w.heap.size w w' := by
  obtain ⟨k, tx, f, a, b, bl⟩ := t
  dsimp only [kAgg]
  by_cases h1 : k = 5
  · subst h1
    by_cases h2 : tx = s
    · have t2 : (tx.toList == s.toList) = true := by rw [ba_beq]; simpa using h2
      have e : Dx.isSign ⟨5, tx, f, a, b, bl⟩ s = true := by simp [Dx.isSign, h2]
      rw [e]
      clear h2 e
      go_enter Tryz.func57, Tryz.ntmps57
      go_wp2_with fail
      go_ret
      exact ⟨rfl, (Below.refl _ _).alloc (Nat.le_refl _) _⟩
    · have t2 : (tx.toList == s.toList) = false := by rw [ba_beq]; simpa using h2
      have e : Dx.isSign ⟨5, tx, f, a, b, bl⟩ s = false := by simp [Dx.isSign, h2]
      rw [e]
      clear h2 e
      go_enter Tryz.func57, Tryz.ntmps57
      go_wp2_with fail
      go_ret
      exact ⟨rfl, (Below.refl _ _).alloc (Nat.le_refl _) _⟩
  · have t1 : (k == 5) = false := by simpa using h1
    have e : Dx.isSign ⟨k, tx, f, a, b, bl⟩ s = false := by simp [Dx.isSign, h1]
    rw [e]
    clear h1 e
    go_enter Tryz.func57, Tryz.ntmps57
    go_wp2_with fail
    go_ret
    exact ⟨rfl, (Below.refl _ _).alloc (Nat.le_refl _) _⟩

theorem eql_toks (w : World) (a : Option Addr) (n c n' c' : Nat) : (binOp .eql 42 (.slice a n c) (.slice none n' c')).run Tryz.prog w = .ok (.bool a.isNone) w := Lib.run_eql_slice_nil w _ _ a n c n' c' Tryz.underlying42

/-- The cells of tokens, one behind the other. -/
theorem Ks.row {W : World} {g o n cap : Nat} {ts : List K} (h : Ks W (.slice (some ⟨g, o, none⟩) n cap) ts) : ∀ j u, (ksCells ts)[j]? = some u → W.cell? ⟨g, o + j, none⟩ = some u := by
  intro j u hj
  have hlt := (List.getElem?_eq_some_iff.1 hj).1
  rw [ksCells_length] at hlt
  have hi : j / 6 < ts.length := by omega
  obtain ⟨g', o', e, c⟩ : ∃ g' o', (some (⟨g, o, none⟩ : Addr)) = some ⟨g', o', none⟩ ∧ KAt W g' (o' + j / 6 * 6) ts[j / 6] := by
    obtain ⟨ad', cap', e, _, _, h3⟩ := h
    injection e with e1 e2 e3
    subst e1
    exact h3 _ _ (List.getElem?_eq_getElem hi)
  injection e with e
  injection e with e1 e2
  subst e1 e2
  have hm : j % 6 < 6 := Nat.mod_lt _ (by omega)
  have hj6 : j = j / 6 * 6 + j % 6 := by omega
  obtain ⟨t, ht⟩ : ∃ t, t = ts[j / 6] := ⟨_, rfl⟩
  rw [← ht] at c
  have hg : ts[j / 6]? = some t := by rw [ht]; exact List.getElem?_eq_getElem hi
  obtain ⟨q, hq⟩ : ∃ q, q = j / 6 := ⟨_, rfl⟩
  obtain ⟨r, hr⟩ : ∃ r, r = j % 6 := ⟨_, rfl⟩
  rw [← hq] at c hg hj6
  rw [← hr] at hm hj6
  clear hq hr ht hi hlt
  subst hj6
  have key := fun v hv => ksCells_get ts q t hg r v hv
  have hr6 : r < (kCells t).length := hm
  have e3 := key _ (List.getElem?_eq_getElem hr6)
  rw [hj] at e3
  obtain rfl := Option.some.inj e3
  obtain ⟨c0, c1, c2, c3, c4, c5⟩ := c
  have h6 : r = 0 ∨ r = 1 ∨ r = 2 ∨ r = 3 ∨ r = 4 ∨ r = 5 := by omega
  rw [← Nat.add_assoc]
  rcases h6 with rfl | rfl | rfl | rfl | rfl | rfl
  · exact c0
  · exact c1
  · exact c2
  · exact c3
  · exact c4
  · exact c5

set_option maxHeartbeats 4000000 in
set_option maxRecDepth 100000 in
/-- Clone: new memory that holds the same tokens. -/
theorem clone_any (v : Value) (ts : List K) (w : World) (hv : Ks w v ts) (hl : ts.length * 56 ≤ 140737488355328) :
    Calls Tryz.prog 43 #[v] w fun e w' => ∃ u, e = .returned u ∧ w'.ownsRow w.heap.size 50 6 u ts.length (ksCells ts) ∧ Below w.heap.size w w' := by
  obtain ⟨i0, hi, hz0, hz1, hz2⟩ := info_parts infoTok
  obtain ⟨ad, cap, rfl, hc1, hc2, hc3⟩ := id hv
  cases ad with
  | none =>
    have h0 : ts = [] := by
      cases ts with
      | nil => rfl
      | cons t r => obtain ⟨g, o, e, _⟩ := hc3 0 t rfl; cases e
    subst h0
    have q := eql_toks
    clear hv hc3
    go_enter Tryz.func43, Tryz.ntmps43
    go_wp2_with fail
    go_ret
    exact ⟨_, rfl, World.ownsRow_nil _ _ _ _, Below.refl _ _⟩
  | some a =>
    have q := eql_toks
    have hrow : ∀ j u, (ksCells ts)[j]? = some u → w.cell? (a.add j) = some u := by
      intro j u hj
      have hlt := (List.getElem?_eq_some_iff.1 hj).1
      rw [ksCells_length] at hlt
      obtain ⟨g, o, e, _⟩ := hc3 0 _ (List.getElem?_eq_getElem (by omega))
      injection e with e
      subst e
      rw [add_none]
      exact hv.row j u hj
    have HR := Lib.hid hrow
    obtain ⟨n, hn⟩ : ∃ n, n = ts.length := ⟨_, rfl⟩
    rw [← hn] at hl hc1 ⊢
    have Hn := Lib.hid hn
    clear hv hc3 hrow hn
    go_enter Tryz.func43, Tryz.ntmps43
    go_wp2_with (at_builtin; refine wpList_append_own _ rfl _ _ 42 rfl w.heap.size 50 i0 _ 6 56 Tryz.underlying42 hi hz0 hz1 hz2 rfl (by decide) _ _ _ rfl (World.ownsRow_made w #[] 0 (Nat.le_refl _) (Nat.zero_le _) rfl) a n cap (ksCells ts) rfl ?qc1 ?qc2 ?qc3 ?qc4 ?qc5 ?qc6 ?_)
    case qc1 => rw [ksCells_length, Hn.out]
    case qc2 => intro j u hj; exact Lib.cell?_alloc_some _ (HR.out j u hj)
    case qc3 => exact ksCells_one ts
    case qc4 => unfold maxLen; omega
    case qc5 => omega
    case qc6 => simp
    intro v' w1 hown hgrow hnil
    go_wp2_with fail
    go_ret
    exact ⟨v', rfl, hown, ((Below.refl _ w).alloc (Nat.le_refl _) _).grown hgrow (by simp) (by intro k hk; simp [Value.ownBlock] at hk; omega)⟩

set_option maxHeartbeats 4000000 in
set_option maxRecDepth 100000 in
theorem begins_any (v : Value) (ts : List K) (w : World) (hv : Ks w v ts) (hl : ts.length * 56 ≤ 140737488355328) (hG : Glob w) :
    Calls Tryz.prog 42 #[v] w fun e w' => e = .returned (.tuple #[.int .i64 (Dx.begins ts).1, .int .i64 (Dx.begins ts).2]) ∧ Below w.heap.size w w' := by
  obtain ⟨ad, cap, rfl, hc1, hc2, hc3⟩ := id hv
  have HG := Lib.hid hG
  clear hG
  match ts, hv, hl with
  | [], hv, hl =>
    clear hv hc3
    go_enter Tryz.func42, Tryz.ntmps42
    go_wp2_with fail
    go_ret2
    exact ⟨rfl, Below.refl _ _⟩
  | t :: r, hv, hl =>
    obtain ⟨g, o, rfl, -, -, -, hg, hcell⟩ := hv.cells (by simp)
    have c := hcell 0 t rfl
    have key := dsign_any t ⟨#[35]⟩
    cases hs : Dx.isSign t ⟨#[35]⟩ with
    | false =>
      rw [Dx.begins_no t r hs]
      rw [hs] at key
      obtain ⟨k, tx, f, a, b, bl⟩ := t
      obtain ⟨c0, c1, c2, c3, c4, c5⟩ := c
      dsimp only [kAgg] at key c0 c1 c2 c3 c4 c5
      simp only [Nat.zero_mul, Nat.add_zero] at c0 c1 c2 c3 c4 c5
      simp only [List.length_cons] at hl hc1 ⊢
      obtain ⟨n, hn⟩ : ∃ n, n = r.length := ⟨_, rfl⟩
      rw [← hn] at hl hc1 ⊢
      clear hv hc3 hs hcell hn
      go_enter Tryz.func42, Tryz.ntmps42
      go_wp2_with fail
      refine (key _).mono ?_
      rintro e w' ⟨rfl, hB⟩
      go_wp2_with fail
      go_ret2
      exact ⟨rfl, hB⟩
    | true =>
      rw [hs] at key
      cases r with
      | nil =>
        rw [Dx.begins_one t hs]
        obtain ⟨k, tx, f, a, b, bl⟩ := t
        obtain ⟨c0, c1, c2, c3, c4, c5⟩ := c
        dsimp only [kAgg] at key c0 c1 c2 c3 c4 c5
        simp only [Nat.zero_mul, Nat.add_zero] at c0 c1 c2 c3 c4 c5
        simp only [List.length_cons, List.length_nil] at hl hc1 ⊢
        clear hv hc3 hs hcell
        go_enter Tryz.func42, Tryz.ntmps42
        go_wp2_with fail
        refine (key _).mono ?_
        rintro e w' ⟨rfl, hB⟩
        go_wp2_with fail
        go_ret2
        exact ⟨rfl, hB⟩
      | cons u r =>
        have d := hcell 1 u rfl
        rw [Dx.begins_two t u r hs]
        obtain ⟨q, hq⟩ : ∃ q, q = Dx.kindOf u.text := ⟨_, rfl⟩
        rw [← hq]
        have HQ := Lib.hid hq
        obtain ⟨k, tx, f, a, b, bl⟩ := t
        obtain ⟨c0, c1, c2, c3, c4, c5⟩ := c
        obtain ⟨uk, utx, uf, ua, ub, ubl⟩ := u
        obtain ⟨d0, d1, -, -, -, -⟩ := d
        dsimp only [kAgg] at key c0 c1 c2 c3 c4 c5 d0 d1 HQ ⊢
        simp only [Nat.zero_mul, Nat.add_zero, Nat.reduceMul] at c0 c1 c2 c3 c4 c5 d0 d1
        simp only [List.length_cons] at hl hc1 ⊢
        obtain ⟨n, hn⟩ : ∃ n, n = r.length := ⟨_, rfl⟩
        rw [← hn] at hl hc1 ⊢
        clear hv hc3 hs hcell hn hq
        have z1 : ((n : Int) + 1 + 1 == 1) = false := by simp; omega
        have z2 : ((n : Int) + 1 + 1 == 0) = false := by simp; omega
        by_cases hk : uk = 1
        · subst hk
          by_cases hq0 : q = 0
          · subst hq0
            rw [if_neg (by simp)]
            go_enter Tryz.func42, Tryz.ntmps42
            go_wp2_with fail
            refine (key _).mono ?_
            rintro e w' ⟨rfl, hB⟩
            have d0' := (hB.cell (p := ⟨g, o + 6, none⟩) hg).trans d0
            have d1' := (hB.cell (p := ⟨g, o + 6 + 1, none⟩) hg).trans d1
            clear c0 c1 c2 c3 c4 c5 d0 d1
            go_wp2_with fail
            refine (kind_any utx _ (HG.out.later hB)).mono ?_
            rintro e w'' ⟨rfl, rfl⟩
            rw [← HQ.out]
            go_wp2_with fail
            go_ret2
            exact ⟨rfl, hB⟩
          · rw [if_pos ⟨rfl, hq0⟩]
            have t3 : (q != 0) = true := by simpa using hq0
            go_enter Tryz.func42, Tryz.ntmps42
            go_wp2_with fail
            refine (key _).mono ?_
            rintro e w' ⟨rfl, hB⟩
            have d0' := (hB.cell (p := ⟨g, o + 6, none⟩) hg).trans d0
            have d1' := (hB.cell (p := ⟨g, o + 6 + 1, none⟩) hg).trans d1
            clear c0 c1 c2 c3 c4 c5 d0 d1
            go_wp2_with fail
            refine (kind_any utx _ (HG.out.later hB)).mono ?_
            rintro e w'' ⟨rfl, rfl⟩
            rw [← HQ.out]
            go_wp2_with fail
            go_ret2
            exact ⟨rfl, hB⟩
        · rw [if_neg (fun h => hk h.1)]
          have t3 : (uk == 1) = false := by simpa using hk
          go_enter Tryz.func42, Tryz.ntmps42
          go_wp2_with fail
          refine (key _).mono ?_
          rintro e w' ⟨rfl, hB⟩
          have d0' := (hB.cell (p := ⟨g, o + 6, none⟩) hg).trans d0
          clear c0 c1 c2 c3 c4 c5 d0 d1
          go_wp2_with fail
          go_ret2
          exact ⟨rfl, hB⟩
end Go.Proofs.YtdopmmnabhcigaaGreatDoor

/- What is proved: what the iterator over lines tells, round by round. -/
namespace Go.Proofs.YtdopmmnabhcigaaGreatDoor
open Go.RowKit Go.Shelf

attribute [local go_sem] Oper.semAt_some

/-- One block, and all up to another one, lie as they lay. -/
def KeepS (b m : Nat) (W W' : World) : Prop := W'.heap[b]? = W.heap[b]? ∧ ∀ k, k < m → W'.heap[k]? = W.heap[k]?
theorem KeepS.refl (b m : Nat) (W : World) : KeepS b m W W := ⟨rfl, fun _ _ => rfl⟩
theorem KeepS.trans {b m : Nat} {A B C : World} (h : KeepS b m A B) (k : KeepS b m B C) : KeepS b m A C := ⟨k.1.trans h.1, fun i hi => (k.2 i hi).trans (h.2 i hi)⟩
theorem KeepS.cell {b m : Nat} {W W' : World} (h : KeepS b m W W') {v : Value} (hc : W.cell? ⟨b, 0, none⟩ = some v) : W'.cell? ⟨b, 0, none⟩ = some v :=
  (World.cell?_of_block (a := ⟨b, 0, none⟩) h.1).trans hc
theorem KeepS.put {b m : Nat} {w : World} (hb : b < w.heap.size) (hm : m ≤ w.heap.size) (W : World) (l : Nat) (o o' : Obj) (hl : w.heap.size ≤ l) (_ : W.heap[l]? = some o) (_ : o.isCells = false) (_ : o.isWalk = false) : KeepS b m W (W.putObj l o') :=
  ⟨World.putObj_heap_other (by omega), fun _ _ => World.putObj_heap_other (by omega)⟩

/-- Where a line stands among tokens. -/
abbrev Cut (ts : List K) := { c : Nat × Nat // c.1 < ts.length ∧ c.1 + c.2 ≤ ts.length }

theorem grown_new (W : World) (o : Obj) : W.grownBy (W.alloc o) none := World.grownBy_alloc W o none

/-- The tokens of a slice lie below a block. -/
def Under (v : Value) (m : Nat) : Prop := ∀ g o n cap, v = .slice (some ⟨g, o, none⟩) n cap → g < m

set_option maxRecDepth 100000 in
set_option maxHeartbeats 4000000 in
theorem places1_in (n : Nat) (hn : 1 ≤ n) (l Bn m : Nat) (v : Value) (ts : List K) (hl : ts.length * 56 ≤ 140737488355328) (hu : 0 < ts.length → Under v m) (J Jx : List (Cut ts) → World → Prop)
    (hY : ∀ pre (x : Cut ts) W, J pre W → pre.length < (Dx.cuts 0 0 ts).length → YieldAt Fence.wide (n - 1) Tryz.prog l #[.int .i64 x.1.1, .int .i64 x.1.2] W fun e W' =>
      (e = .returned (.bool true) ∧ J (pre ++ [x]) W' ∧ KeepS Bn m W W') ∨ (e = .returned (.bool false) ∧ Jx (pre ++ [x]) W'))
    (W : World) (hJ : AbidesFrom W.heap.size J) (hBn : W.cell? ⟨Bn, 0, none⟩ = some v) (hv : Ks W v ts) (h0 : J [] W) :
    CallsIn Fence.wide n Tryz.prog 56 #[.func (.yield l) #[] #[], .pointer (some ⟨Bn, 0, none⟩)] W fun e W' => (∃ v, e = .returned v) ∧
      ((∃ ys, ys.map Subtype.val = Dx.cuts 0 0 ts ∧ J ys W') ∨ (∃ pre, pre.map Subtype.val <+: Dx.cuts 0 0 ts ∧ Jx pre W')) := by
  obtain ⟨ad, cap, rfl, hc1, hc2, -⟩ := id hv
  unfold maxLen at hc2
  rcases Nat.eq_zero_or_pos ts.length with hz | hpos
  · have hts : ts = [] := List.length_eq_zero_iff.1 hz
    subst hts
    refine callsIn_of_wp Tryz.func56 rfl trivial ?_ rfl
    simp only [Tryz.ntmps56, List.size_toArray, List.length_cons, List.length_nil, Nat.reduceAdd, Nat.reduceSub, Array.replicate_succ, Array.replicate_zero, List.push_toArray, List.append_toArray, List.nil_append, List.cons_append]
    clear hv hu
    gi_wp2
    gi_loopw [3, 8] (fun f k wr => f = .int .i64 0 ∧ k = .int .i64 0 ∧ wr.cell? ⟨Bn, 0, none⟩ = some (.slice ad 0 cap) ∧ J [] wr) (fun _ _ _ => 0)
    case atStart => exact ⟨rfl, rfl, hBn, h0⟩
    case round =>
      obtain ⟨rfl, rfl, hc, hj⟩ := hrel
      gi_wp2_with fail
      go_end0
      exact ⟨⟨_, rfl⟩, .inl ⟨[], rfl, hj⟩⟩
  · obtain ⟨g, o, rfl, -, -, -, -, hcell⟩ := hv.cells hpos
    have hg : g < m := hu hpos g o _ _ rfl
    refine callsIn_of_wp Tryz.func56 rfl trivial ?_ rfl
    simp only [Tryz.ntmps56, List.size_toArray, List.length_cons, List.length_nil, Nat.reduceAdd, Nat.reduceSub, Array.replicate_succ, Array.replicate_zero, List.push_toArray, List.append_toArray, List.nil_append, List.cons_append]
    obtain ⟨N, hN⟩ : ∃ N, N = ts.length := ⟨_, rfl⟩
    rw [← hN] at hl hc1 hpos hBn
    have HN := Lib.hid hN
    have HC := Lib.hid hcell
    clear hN hv hu hcell
    gi_wp2
    gi_loopw [3, 8] (fun f3 f8 wr => ∃ (f k : Nat) (pre : List (Cut ts)), f3 = .int .i64 f ∧ f8 = .int .i64 k ∧ Dx.At ts f k (pre.map Subtype.val) ∧ wr.cell? ⟨Bn, 0, none⟩ = some (.slice (some ⟨g, o, none⟩) N cap) ∧ wr.heap[g]? = W.heap[g]? ∧ J pre wr)
      (fun _ p _ => N - (intOf p).toNat)
    case atStart => exact ⟨0, 0, [], rfl, rfl, Dx.at_start ts, hBn, rfl, h0⟩
    case round =>
      obtain ⟨f, k, pre, rfl, rfl, hat, hc, hgb, hj⟩ := hrel
      have hfk := hat.1
      have hkN := hat.2.1
      rw [← HN.out] at hkN
      by_cases hlt : k < N
      · obtain ⟨t, ht⟩ : ∃ t, ts[k]? = some t := ⟨_, List.getElem?_eq_getElem (by rw [← HN.out]; exact hlt)⟩
        have hk0 := (HC.out k t ht).kept hgb
        obtain ⟨kd, tx, fl, fr, en, bl⟩ := t
        obtain ⟨c0, c1, c2, c3, c4, c5⟩ := hk0
        dsimp only at c0 c1 c2 c3 c4 c5
        have hja := hJ pre wr _ none hj (grown_new wr (.cells #[.int .i64 kd, .string tx, .int .i64 fl, .int .i64 fr, .int .i64 en, .bool bl] 50)) (fun r e => by cases e)
        have hgs : g < wr.heap.size := lt_of_cell c0
        by_cases hkd : kd = 7
        · subst hkd
          obtain ⟨hat2, hpre, hlen⟩ := Dx.at_cut hat ht rfl
          have hok : f < ts.length ∧ f + (k - f) ≤ ts.length := by rw [← HN.out]; omega
          rw [List.length_map] at hlen
          obtain ⟨fn, tmps, assign, body, hy, hR⟩ := hY pre ⟨(f, k - f), hok⟩ _ hja hlen
          have ek : (((f, k - f) : Nat × Nat).2 : Int) = (k : Int) - f := by show ((k - f : Nat) : Int) = _; omega
          dsimp only at hy
          rw [show ((k - f : Nat) : Int) = (k : Int) - f by omega] at hy
          have HA := Lib.hid hat2
          have HPre := Lib.hid hpre
          clear hat2 hpre ek hat
          gi_wp2_with fail
          refine hR.mono ?_
          rintro e W3 (⟨rfl, hJ3, hk3⟩ | ⟨rfl, hJx3⟩)
          · have hc3 := hk3.cell (Lib.cell?_alloc_some (.cells #[.int .i64 7, .string tx, .int .i64 fl, .int .i64 fr, .int .i64 en, .bool bl] 50) hc)
            have hg3 := hk3.2 g hg
            gi_wp2_with fail
            go_roundw
            case rel => exact ⟨k + 1, k + 1, pre ++ [⟨(f, k - f), hok⟩], by go_num, by go_num, by rw [List.map_append]; exact HA.out, hc3, hg3.trans ((Below.heap_alloc _ _ _ hgs).trans hgb), hJ3⟩
            case measure => simp [intOf]; omega
          · gi_wp2_with fail
            refine bodyPost_ret (results_none rfl _ _ _) rfl ?_
            exact ⟨⟨_, rfl⟩, .inr ⟨_, by rw [List.map_append]; exact HPre.out, hJx3⟩⟩
        · have hat2 := Dx.at_skip hat ht hkd
          have t1 : (kd != 7) = true := by simpa using hkd
          have HA := Lib.hid hat2
          clear hat2 hat
          gi_wp2_with fail
          go_roundw
          case rel => exact ⟨f, k + 1, pre, rfl, by go_num, HA.out, Lib.cell?_alloc_some _ hc, (Below.heap_alloc _ _ _ hgs).trans hgb, hja⟩
          case measure => simp [intOf]; omega
      · obtain ⟨he1, he2⟩ := Dx.at_endN hat HN.out (by omega)
        have H1 := Lib.hid he1
        have H2 := Lib.hid he2
        clear he1 he2
        by_cases hf : f < N
        · obtain ⟨hcu, hlen⟩ := H1.out hf
          rw [List.length_map] at hlen
          have hok : f < ts.length ∧ f + (N - f) ≤ ts.length := by rw [← HN.out]; omega
          obtain ⟨fn, tmps, assign, body, hy, hR⟩ := hY pre ⟨(f, N - f), hok⟩ _ hj hlen
          dsimp only at hy
          rw [show ((N - f : Nat) : Int) = (N : Int) - f by omega] at hy
          have HCu := Lib.hid hcu
          clear hcu hat
          gi_wp2_with fail
          refine hR.mono ?_
          rintro e W3 (⟨rfl, hJ3, hk3⟩ | ⟨rfl, hJx3⟩)
          · gi_wp2_with fail
            go_end0
            exact ⟨⟨_, rfl⟩, .inl ⟨pre ++ [⟨(f, N - f), hok⟩], by rw [List.map_append, HCu.out]; rfl, hJ3⟩⟩
          · gi_wp2_with fail
            go_end0
            exact ⟨⟨_, rfl⟩, .inr ⟨pre ++ [⟨(f, N - f), hok⟩], by rw [List.map_append, HCu.out]; exact List.prefix_refl _, hJx3⟩⟩
        · clear hat
          gi_wp2_with fail
          go_end0
          exact ⟨⟨_, rfl⟩, .inl ⟨pre, (H2.out (by omega)).symm, hj⟩⟩

set_option maxHeartbeats 1000000 in
theorem places_in (n : Nat) (ad : Option Addr) (m cap : Nat) (w : World) :
    CallsIn Fence.wide n Tryz.prog 41 #[.slice ad m cap] w fun e w' => e = .returned (.func (.func 56) #[] #[.pointer (some ⟨w.heap.size, 0, none⟩)]) ∧ w' = w.alloc (.cells #[.slice ad m cap] 42) := by
  refine callsIn_of_wp Tryz.func41 rfl trivial ?_ rfl
  simp only [Tryz.ntmps41, List.size_toArray, List.length_cons, List.length_nil, Nat.reduceAdd, Nat.reduceSub, Array.replicate_succ, Array.replicate_zero, List.push_toArray, List.append_toArray, List.nil_append, List.cons_append]
  gi_wp2
  go_ret
  exact ⟨rfl, rfl⟩

theorem places_stops (n : Nat) (hn : 1 ≤ n) (Bn m : Nat) (v : Value) (ts : List K) (hl : ts.length * 56 ≤ 140737488355328) (hu : 0 < ts.length → Under v m) (w : World) (hBn : Bn < w.heap.size)
    (hc : w.cell? ⟨Bn, 0, none⟩ = some v) (hv : Ks w v ts) :
    SeqStopsK Fence.wide n Tryz.prog 56 #[.pointer (some ⟨Bn, 0, none⟩)] (fun x : Cut ts => #[.int .i64 x.1.1, .int .i64 x.1.2]) (KeepS Bn m) (fun ys => ys.map Subtype.val = Dx.cuts 0 0 ts) (fun pre => pre.map Subtype.val <+: Dx.cuts 0 0 ts) (Dx.cuts 0 0 ts).length w := fun l J Jx W hW hJ _ hY h0 =>
  places1_in n hn l Bn m v ts hl hu J Jx hY W hJ ((hW.cell (p := ⟨Bn, 0, none⟩) hBn).trans hc) (hv.below hW) h0
end Go.Proofs.YtdopmmnabhcigaaGreatDoor

/- What is proved: what Lines tells of any tokens: their lines, in new memory. -/
namespace Go.Proofs.YtdopmmnabhcigaaGreatDoor
open Go.RowKit Go.Shelf

attribute [local go_sem] Oper.semAt_some

/-! ### A region that draws its order, in a round: as everywhere -/
theorem op_round {P : Program} {n l : Nat} {o : Oper} {a : Act} {w : World} {K : Act → World → Prop} {Q : Exit → Act → World → Prop} (hnd : ∀ c, o.op ≠ .defer c) (h : o.wp P a w K Q) :
    o.wpIn (Fence.wide.inRound l) n P a w K Q := by
  unfold Oper.wp at h
  unfold Oper.wpIn
  refine ⟨fun _ _ => trivial, ?_⟩
  rw [Oper.semAt_plain _ _ _ hnd]
  generalize (execOp a.eval o).run P w = r at *
  cases r with
  | ok x w' =>
    cases x <;> simp only [Oper.upon, Oper.uponIn] at h ⊢ <;>
      first
        | exact h
        | exact ⟨fun e => by simp [Fence.wide] at e, CallsIn.inRound l (callsIn_wide.2 h)⟩
        | exact ⟨fun e => by simp [Fence.wide] at e, fun c cs _ => let ⟨v, w', r, s⟩ := h c cs; ⟨v, w', r, stepsIn_wide.2 s⟩⟩
  | halt x w' => cases x <;> simp only [Oper.upon, Oper.uponIn] at h ⊢ <;> exact h

theorem any_round {P : Program} {n l : Nat} {md : Region.Mode} {ops : Array Oper} {Q : Exit → Act → World → Prop} (hnd : ∀ (i : Nat) (o : Oper), ops[i]? = some o → ∀ c, o.op ≠ .defer c) (hno : ¬ LetsOut Q) :
    ∀ (fuel : Nat) (listed : Array Bool) (a : Act) (w : World), wpAny P md ops Q fuel listed a w → wpAnyIn (Fence.wide.inRound l) n P md ops Q fuel listed a w := by
  intro fuel
  induction fuel with
  | zero => intro listed a w h; exact h
  | succ fuel ih =>
    intro listed a w h
    refine ⟨h.1, fun i hi => ?_⟩
    have hk := h.2 i hi
    unfold wpOp at hk
    unfold wpOpIn
    cases ho : ops[i]? with
    | none => rw [ho] at hk; exact ih _ _ _ hk
    | some o =>
      rw [ho] at hk
      dsimp only at hk ⊢
      split
      · rename_i hw
        rw [if_pos hw] at hk
        rcases hk with hk | ⟨_, hk⟩
        · exact Oper.wpIn_mono (fun a w => ih _ a w) (op_round (hnd i o ho) hk)
        · exact absurd hk hno
      · rename_i hw
        rw [if_neg hw] at hk
        exact ⟨fun _ _ => trivial, ih _ _ _ hk⟩

def noDefer (o : Oper) : Bool := match o.op with
  | .defer _ => false
  | _ => true
theorem noDefers {ops : Array Oper} (h : ops.toList.all noDefer = true) : ∀ (i : Nat) (o : Oper), ops[i]? = some o → ∀ c, o.op ≠ .defer c := by
  intro i o ho c e
  have := List.all_eq_true.1 h o (List.mem_of_getElem? (by rw [Array.getElem?_toList]; exact ho))
  unfold noDefer at this
  rw [e] at this
  cases this

theorem region_round {P : Program} {n l id : Nat} {ops : Array Oper} {Q : Exit → Act → World → Prop} {a : Act} {w : World} (hm : P.follows .mixedOrders = true) (hnd : ops.toList.all noDefer = true) (hno : ¬ LetsOut Q)
    (h : wpAny P .any ops Q ops.size (Array.replicate ops.size false) a w.drew) : (Code.region id ops true).wpIn (Fence.wide.inRound l) n P Q a w :=
  wpIn_region_any hm (any_round (noDefers hnd) hno _ _ _ _ h)

theorem row_base {W : World} {base base' e sz n : Nat} {v : Value} {cs : List Value} (h : W.ownsRow base e sz v n cs) (hb : base' ≤ base) : W.ownsRow base' e sz v n cs := by
  refine ⟨h.1, ?_⟩
  rcases h.2 with h' | ⟨g, cap, cur, h', h1, h2, h3⟩
  · exact .inl h'
  · exact .inr ⟨g, cap, cur, h', Nat.le_trans hb h1, h2, h3⟩

/-- Slices that own lines' tokens. -/
def SlO (b : Nat) (W : World) (vs : List Value) (ls : List Ln) : Prop := vs.length = ls.length ∧ ∀ (i : Nat) (v : Value) (x : Ln), vs[i]? = some v → ls[i]? = some x → W.ownsRow b 50 6 v x.toks.length (ksCells x.toks)
theorem SlO.nil (b : Nat) (W : World) : SlO b W [] [] := ⟨rfl, fun i v x h => by simp at h⟩
theorem SlO.below {b : Nat} {W W' : World} {vs : List Value} {ls : List Ln} (h : SlO b W vs ls) (hb : Below W.heap.size W W') : SlO b W' vs ls :=
  ⟨h.1, fun i v x h1 h2 => row_below (h.2 i v x h1 h2) hb⟩
theorem SlO.kept {b : Nat} {W W' : World} {row : Option Nat} {vs : List Value} {ls : List Ln} (h : SlO b W vs ls) (hg : W.grownBy W' row) (hr : ∀ r, row = some r → ∀ cur, W.heap[r]? ≠ some (.cells cur 50 (0, 0))) : SlO b W' vs ls := by
  refine ⟨h.1, fun i v x h1 h2 => ?_⟩
  have hw := h.2 i v x h1 h2
  refine hw.kept hg ?_
  rcases hw.2 with ⟨rfl, _⟩ | ⟨g, cap, cur, rfl, _, hgb, _⟩
  · exact .inl rfl
  · exact .inr fun e => hr g (by simpa [Value.ownBlock] using e.symm) cur hgb
theorem SlO.snoc {b : Nat} {W : World} {vs : List Value} {ls : List Ln} {v : Value} {x : Ln} (h : SlO b W vs ls) (hv : W.ownsRow b 50 6 v x.toks.length (ksCells x.toks)) : SlO b W (vs ++ [v]) (ls ++ [x]) := by
  refine ⟨by simp [h.1], fun i u y h1 h2 => ?_⟩
  rcases Nat.lt_trichotomy i vs.length with hi | hi | hi
  · rw [List.getElem?_append_left hi] at h1
    rw [List.getElem?_append_left (by rw [← h.1]; exact hi)] at h2
    exact h.2 i u y h1 h2
  · rw [List.getElem?_append_right (by omega), hi, Nat.sub_self] at h1
    rw [List.getElem?_append_right (by have := h.1; omega), hi, ← h.1, Nat.sub_self] at h2
    simp at h1 h2
    subst h1 h2
    exact hv
  · rw [List.getElem?_eq_none (by simp; omega)] at h1; cases h1
theorem SlO.slK {b : Nat} {W : World} {vs : List Value} {ls : List Ln} (h : SlO b W vs ls) : SlK W vs ls := by
  refine ⟨h.1, fun i v x h1 h2 => ?_⟩
  have hk := Ks.of_row (h.2 i v x h1 h2)
  refine ⟨hk, ?_⟩
  obtain ⟨ad, cap, rfl, _⟩ := hk
  rfl

/-- What is at hand between two rounds: the list so far in its box, its tokens' slices, and two boxes of the argument. -/
def LinesI (n0 B0 B1 B2 : Nat) (v : Value) (f : List (Nat × Nat) → List Ln) (pre : List (Nat × Nat)) (W : World) : Prop :=
  (∃ u vs, Boxed W B1 47 u ∧ W.ownsRow n0 44 4 u (f pre).length (lnCells vs (f pre)) ∧ SlO n0 W vs (f pre)) ∧ Boxed W B0 42 v ∧ Boxed W B2 42 v

theorem linesI_own (n0 B0 B1 B2 : Nat) (v : Value) {β : Type} (h : β → List (Nat × Nat)) (f : List (Nat × Nat) → List Ln) : Own (fun (pre : β) W => LinesI n0 B0 B1 B2 v f (h pre) W) := by
  rintro s X Y row ⟨⟨u, vs, hu, hr, hs⟩, b0, b2⟩ hg hrow
  have nb : ∀ {B : Nat} {t : TypeId} {z : Value}, Boxed X B t z → some B ≠ row := fun hb e => by
    obtain ⟨o, ho, hc⟩ := hrow _ e.symm
    rw [show X.heap[_]? = _ from hb] at ho; cases ho; cases hc
  refine ⟨⟨u, vs, hu.kept hg (nb hu), hr.kept hg ?_, hs.kept hg fun r e cur hc => ?_⟩, b0.kept hg (nb b0), b2.kept hg (nb b2)⟩
  · rcases hr.2 with ⟨rfl, _⟩ | ⟨g, cap, cur, rfl, _, hgb, _⟩
    · exact .inl rfl
    · refine .inr fun e' => ?_
      obtain ⟨o, ho, hc⟩ := hrow g (by simpa [Value.ownBlock] using e'.symm)
      rw [hgb] at ho; cases ho; cases hc
  · obtain ⟨o, ho, hc'⟩ := hrow r e
    rw [hc] at ho; cases ho; cases hc'

theorem SlO.appended {n0 B k : Nat} {w5 w6 : World} {u v' : Value} {xs vs : List Value} {ls : List Ln} {tmp : Obj} (h : SlO n0 w5 vs ls) (hrow : w5.ownsRow n0 44 4 u k xs)
    (hgrow : (w5.alloc tmp).grownBy w6 u.ownBlock) (hb : Boxed w6 B 47 u) : SlO n0 (w6.setCell ⟨B, 0, none⟩ v') vs ls := by
  refine ((h.below ((Below.refl _ _).alloc (Nat.le_refl _) tmp)).kept hgrow fun r e cur hc => ?_).kept (grownBy_setCell' w6 B v') fun r e cur hc => ?_
  · rcases (hrow.alloc tmp).2 with ⟨rfl, _⟩ | ⟨g, cap, cur', rfl, _, hgb, _⟩
    · cases e
    · obtain rfl : g = r := by simpa [Value.ownBlock] using e
      rw [hgb] at hc
      simp at hc
  · injection e with e
    subst e
    rw [show w6.heap[B]? = _ from hb] at hc
    simp at hc

theorem lnCells_snoc (vs : List Value) (ls : List Ln) (v : Value) (x : Ln) (h : vs.length = ls.length) : lnCells (vs ++ [v]) (ls ++ [x]) = lnCells vs ls ++ [.int .i64 x.kind, .int .i64 x.first, .int .i64 x.n, v] := by
  rw [lnCells_append _ _ _ _ h]
  simp [lnCells]

theorem keepsFrom_below {B : Nat} {W W' : World} (h : Below W.heap.size W W') : KeepsFrom B W W' := ⟨h.size, fun k _ _ hk _ => (h.block k (Array.getElem?_eq_some_iff.1 hk).1).trans hk⟩

theorem news_line (w : World) (a b c d : Value) (t : TypeId) : ∀ j u, [a, b, c, d][j]? = some u → (w.alloc (.cells #[a, b, c, d] t)).cell? ((⟨w.heap.size, 0, none⟩ : Addr).add j) = some u := by
  intro j u hj
  match j, hj with
  | 0, hj => simp at hj; subst hj; simp [Addr.add]
  | 1, hj => simp at hj; subst hj; simp [Addr.add]
  | 2, hj => simp at hj; subst hj; simp [Addr.add]
  | 3, hj => simp at hj; subst hj; simp [Addr.add]

set_option maxRecDepth 100000 in
set_option maxHeartbeats 8000000 in
theorem lines_in (m : Nat) (hm : 3 ≤ m) (v : Value) (ts : List K) (w : World) (hv : Ks w v ts) (hl : ts.length * 56 ≤ 140737488355328) (hG : Glob w) :
    CallsIn Fence.wide m Tryz.prog 31 #[v] w fun e W' => ∃ u, e = .returned u ∧ Lns W' u (Dx.lines ts) ∧ Below w.heap.size w W' := by
  have h1 : 1 ≤ m := by omega
  obtain ⟨i0, hi, hz0, hz1, hz2⟩ := info_parts infoLn
  obtain ⟨ad, cap, rfl, hc1, hc2, -⟩ := id hv
  have HG := Lib.hid hG
  obtain ⟨N, hN⟩ : ∃ N, N = ts.length := ⟨_, rfl⟩
  have hcl := Dx.cuts_length ts
  rw [← hN] at hl hc1 hcl ⊢
  have HN := Lib.hid hN
  have hu : 0 < ts.length → Under (.slice ad N cap) w.heap.size := fun hp g o n' cap' e => by
    obtain ⟨g', o', e', -, -, -, hg, -⟩ := hv.cells hp
    injection e with e1 e2 e3
    rw [e'] at e1
    injection e1 with e1
    injection e1 with e1
    omega
  have hv' : Ks w (.slice ad N cap) ts := by rw [hN]; exact hv
  have HV := Lib.hid hv'
  clear hG hv hv' hN
  refine callsIn_of_wp_marks Tryz.func31 rfl trivial ?_ rfl
  simp only [Tryz.ntmps31, List.size_toArray, List.length_cons, List.length_nil, Nat.reduceAdd, Nat.reduceSub, Array.replicate_succ, Array.replicate_zero, List.push_toArray, List.append_toArray, List.nil_append, List.cons_append]
  gi_wp2_with fail
  refine ⟨trivial, (places_in _ ad N cap _).mono ?_⟩
  rintro e w' ⟨rfl, rfl⟩
  gi_wp2_with fail
  have b0 := ((Boxed.new w 42 (.slice ad N cap)).alloc (.cells #[.slice none 0 0] 47)).alloc (.cells #[.slice ad N cap] 42)
  have b1 := (Boxed.new (w.alloc (.cells #[.slice ad N cap] 42)) 47 (.slice none 0 0)).alloc (.cells #[.slice ad N cap] 42)
  have b2 := Boxed.new ((w.alloc (.cells #[.slice ad N cap] 42)).alloc (.cells #[.slice none 0 0] 47)) 42 (.slice ad N cap)
  simp only [World.size_alloc, Nat.add_assoc, Nat.reduceAdd] at b1 b2
  have hB0 : Below w.heap.size w (((w.alloc (.cells #[.slice ad N cap] 42)).alloc (.cells #[.slice none 0 0] 47)).alloc (.cells #[.slice ad N cap] 42)) := (((Below.refl _ w).alloc (Nat.le_refl _) _).alloc (by simp) _).alloc (by simp; omega) _
  have hsz : (((w.alloc (.cells #[.slice ad N cap] 42)).alloc (.cells #[.slice none 0 0] 47)).alloc (.cells #[.slice ad N cap] 42)).heap.size = w.heap.size + 3 := by simp
  obtain ⟨W0, hW0⟩ : ∃ W0, ((w.alloc (.cells #[.slice ad N cap] 42)).alloc (.cells #[.slice none 0 0] 47)).alloc (.cells #[.slice ad N cap] 42) = W0 := ⟨_, rfl⟩
  rw [hW0] at b0 b1 b2 hB0 hsz ⊢
  clear hW0
  refine wpIn_rangeFunc_ownG rfl h1 (gf := 56) (lb := #[.pointer (some ⟨w.heap.size + 2, 0, none⟩)]) rfl trivial (enters_of Tryz.func56 (by kernel_rfl) rfl)
    (places_stops (m - 1) (by omega) (w.heap.size + 2) w.heap.size _ ts (by rw [← HN.out]; exact hl) hu W0 (by omega) b2.cell (HV.out.below hB0)) KeepS.trans (KeepS.put (by omega) (by omega)) (Below.refl _ _) (fun _ => rfl)
    (fun pre W => LinesI w.heap.size w.heap.size (w.heap.size + 1) (w.heap.size + 2) (.slice ad N cap) (fun l => l.map (Dx.lnOf ts)) (pre.map Subtype.val) W ∧ Below w.heap.size w W)
    (fun _ _ _ => False)
    (OwnFrom.and (Own.from (linesI_own _ _ _ _ _ (fun pre : List (Cut ts) => pre.map Subtype.val) _) _) (ownFrom_below (Nat.le_refl _) (by omega)))
    (fun _ _ _ _ _ hs _ _ => hs)
    ⟨⟨⟨_, [], b1, World.ownsRow_nil _ _ _ _, SlO.nil _ _⟩, b0, b2⟩, hB0⟩
    (fun x => { tmps := #[.slice ad N cap, .pointer (some ⟨w.heap.size, 0, none⟩), .slice none 0 0, .pointer (some ⟨w.heap.size + 1, 0, none⟩), .int .i64 x.1.1, .int .i64 x.1.2, undef, undef, undef, .slice ad N cap, .func (.func 56) #[] #[.pointer (some ⟨w.heap.size + 2, 0, none⟩)], .int .i64 x.1.1, .int .i64 x.1.2, undef, undef, undef, undef, undef, undef, undef, undef, undef, undef, undef, undef, undef, undef, undef, undef, undef, undef, undef, undef, undef, undef, undef], defers := [] }) ?assign ?body ?done ?stop
  case assign =>
    intro l x W K hK
    gi_wp2
    exact hK
  case body =>
    rintro l pre ⟨⟨f, n⟩, hok⟩ W ⟨⟨⟨u, vs, bu, hrow, hso⟩, b0', b2'⟩, hB⟩ hlt
    obtain ⟨hf, hfn⟩ := id hok
    dsimp only at hf hfn ⊢
    obtain ⟨g, o, rfl, -, -, -, hg, -⟩ := HV.out.cells (by omega)
    rw [← HN.out] at hf hfn
    have hV2 := HV.out.below hB
    have hpt := hV2.part f (f + n) (by omega) (by rw [← HN.out]; exact hfn)
    rw [show f + n - f = n by omega] at hpt
    have cL := bu.cell
    have cA := b0'.cell
    have e1 : IntKind.i64.wrap ((f : Int) + n) = (f : Int) + n := IntWalk.i64_in _ (by omega)
    have e2 : ((f : Int) + n).toNat = f + n := by omega
    have z1 : (f : Int) ≤ (f : Int) + n := by omega
    have z2 : (f : Int) + n ≤ cap := by omega
    have z3 : (0 : Int) ≤ f := by omega
    have z4 : f < cap := by omega
    have HK := Lib.hid hpt
    have hble := Dx.begins_le ((ts.drop f).take n)
    have htl : ((ts.drop f).take n).length = n := by have := HN.out; rw [List.length_take, List.length_drop]; omega
    obtain ⟨tl, htl'⟩ : ∃ tl, tl = (ts.drop f).take n := ⟨_, rfl⟩
    rw [← htl'] at hpt HK hble htl
    obtain ⟨kd, hkd⟩ : ∃ kd, kd = (Dx.begins tl).1 := ⟨_, rfl⟩
    obtain ⟨ah, hah⟩ : ∃ ah, ah = (Dx.begins tl).2 := ⟨_, rfl⟩
    rw [← hah, htl] at hble
    have HTl := Lib.hid htl'
    have Htl := Lib.hid htl
    have HKd := Lib.hid hkd
    have HAh := Lib.hid hah
    clear hpt htl' htl hkd hah
    gi_wp2_with fail
    refine ⟨trivial, fun h => by simp [Fence.wide] at h, (CallsIn.inRound l (callsIn_wide.2 (begins_any _ tl _ HK.out (by rw [Htl.out]; omega) (HG.out.later hB)))).mono ?_⟩
    rintro e w3 ⟨rfl, hB3⟩
    rw [← HKd.out, ← HAh.out]
    have cL3 := (hB3.cell (p := ⟨w.heap.size + 1, 0, none⟩) bu.lt).trans cL
    have y1 : (0 : Int) ≤ ah := by omega
    have y2 : (ah : Int) ≤ n := by omega
    clear cL cA e1 e2
    gi_wp2_with fail
    obtain ⟨x, hx0, hx1⟩ : ∃ x, (cap - f = ah → x = 0) ∧ (cap - f ≠ ah → x = ah * 6) := by
      by_cases h : cap - f = ah
      · exact ⟨0, fun _ => rfl, fun h' => absurd h h'⟩
      · exact ⟨ah * 6, fun h' => absurd h' h, fun _ => rfl⟩
    have hB4 : Below w.heap.size w w3.drew := (hB.trans (hB3.mono hB.size)).drew
    have hB34 : Below W.heap.size W w3.drew := hB3.drew
    have hS4 : w3.drew.cell? ⟨w.heap.size + 1, 0, none⟩ = some u := cL3
    have bu4 : Boxed w3.drew (w.heap.size + 1) 47 u := (hB3.block _ bu.lt).trans bu
    have b04 : Boxed w3.drew w.heap.size 42 (.slice (some ⟨g, o, none⟩) N cap) := (hB3.block _ b0'.lt).trans b0'
    have b24 : Boxed w3.drew (w.heap.size + 2) 42 (.slice (some ⟨g, o, none⟩) N cap) := (hB3.block _ b2'.lt).trans b2'
    have hrow4 := row_below hrow hB34
    have hso4 := hso.below hB34
    have hK4 : Ks w3.drew (.slice (some ⟨g, o + f * 6 + x, none⟩) (n - ah) (cap - f - ah)) (tl.drop ah) := by
      by_cases h : cap - f = ah
      · have hn0 : n - ah = 0 := by omega
        rw [hn0, List.drop_of_length_le (by rw [Htl.out]; omega)]
        exact Ks.none_at _ _ _ (by omega)
      · rw [hx1 h]
        have := (HK.out.below hB34).part ah n hble (by rw [Htl.out]; omega)
        rwa [List.take_of_length_le (by rw [List.length_drop, Htl.out]; omega)] at this
    have HK4 := Lib.hid hK4
    have hlen : ((pre.map Subtype.val).map (Dx.lnOf ts)).length < N := by simp; omega
    refine region_round (by kernel_rfl) (by kernel_rfl) (fun h => by obtain ⟨_, _, h⟩ := h; exact h) ?_
    obtain ⟨w4, hw4⟩ : ∃ w4, w4 = w3.drew := ⟨_, rfl⟩
    rw [← hw4] at hB4 hB34 hS4 bu4 b04 b24 hrow4 hso4 HK4 ⊢
    clear hw4 hK4
    have hfin : ∀ (w5 w6 : World) (ad5 : Option Addr) (n5 cap5 g' cap' : Nat), Below w4.heap.size w4 w5 → n5 = (tl.drop ah).length → w5.ownsRow w4.heap.size 50 6 (.slice ad5 n5 cap5) n5 (ksCells (tl.drop ah)) →
        w5.ownsRow w.heap.size 44 4 u ((pre.map Subtype.val).map (Dx.lnOf ts)).length (lnCells vs ((pre.map Subtype.val).map (Dx.lnOf ts))) → SlO w.heap.size w5 vs ((pre.map Subtype.val).map (Dx.lnOf ts)) →
        Boxed w5 (w.heap.size + 1) 47 u → Boxed w5 w.heap.size 42 (.slice (some ⟨g, o, none⟩) N cap) → Boxed w5 (w.heap.size + 2) 42 (.slice (some ⟨g, o, none⟩) N cap) →
        (w5.alloc (.cells #[.int .i64 kd, .int .i64 f, .int .i64 n, .slice ad5 n5 cap5] 44)).grownBy w6 u.ownBlock → Boxed w6 (w.heap.size + 1) 47 u →
        (w6.setCell ⟨w.heap.size + 1, 0, none⟩ (.slice (some ⟨g', 0, none⟩) (((pre.map Subtype.val).map (Dx.lnOf ts)).length + 1) cap')).ownsRow w.heap.size 44 4 (.slice (some ⟨g', 0, none⟩) (((pre.map Subtype.val).map (Dx.lnOf ts)).length + 1) cap') (((pre.map Subtype.val).map (Dx.lnOf ts)).length + 1) (lnCells vs ((pre.map Subtype.val).map (Dx.lnOf ts)) ++ [.int .i64 kd, .int .i64 f, .int .i64 n, .slice ad5 n5 cap5]) →
        Boxed (w6.setCell ⟨w.heap.size + 1, 0, none⟩ (.slice (some ⟨g', 0, none⟩) (((pre.map Subtype.val).map (Dx.lnOf ts)).length + 1) cap')) (w.heap.size + 1) 47 (.slice (some ⟨g', 0, none⟩) (((pre.map Subtype.val).map (Dx.lnOf ts)).length + 1) cap') →
        KeepsOthers w5 (w6.setCell ⟨w.heap.size + 1, 0, none⟩ (.slice (some ⟨g', 0, none⟩) (((pre.map Subtype.val).map (Dx.lnOf ts)).length + 1) cap')) →
        Below w.heap.size w5 (w6.setCell ⟨w.heap.size + 1, 0, none⟩ (.slice (some ⟨g', 0, none⟩) (((pre.map Subtype.val).map (Dx.lnOf ts)).length + 1) cap')) →
        KeepsFrom W0.heap.size W (w6.setCell ⟨w.heap.size + 1, 0, none⟩ (.slice (some ⟨g', 0, none⟩) (((pre.map Subtype.val).map (Dx.lnOf ts)).length + 1) cap')) ∧
        KeepS (w.heap.size + 2) w.heap.size W (w6.setCell ⟨w.heap.size + 1, 0, none⟩ (.slice (some ⟨g', 0, none⟩) (((pre.map Subtype.val).map (Dx.lnOf ts)).length + 1) cap')) ∧
        LinesI w.heap.size w.heap.size (w.heap.size + 1) (w.heap.size + 2) (.slice (some ⟨g, o, none⟩) N cap) (fun l => l.map (Dx.lnOf ts)) ((pre ++ [⟨(f, n), hok⟩] : List (Cut ts)).map Subtype.val) (w6.setCell ⟨w.heap.size + 1, 0, none⟩ (.slice (some ⟨g', 0, none⟩) (((pre.map Subtype.val).map (Dx.lnOf ts)).length + 1) cap')) ∧
        Below w.heap.size w (w6.setCell ⟨w.heap.size + 1, 0, none⟩ (.slice (some ⟨g', 0, none⟩) (((pre.map Subtype.val).map (Dx.lnOf ts)).length + 1) cap')) := by
      intro w5 w6 ad5 n5 cap5 g' cap' hB5 hn5 hrow5 hrow5' hso5 bu5 b05 b25 hgrow hv1 hr2 hv2 hk2 hb2
      have hB5w : Below w.heap.size w w5 := hB4.trans (hB5.mono hB4.size)
      have hB35 : Below W.heap.size W w5 := hB34.trans (hB5.mono hB34.size)
      have b0f := ((b05.alloc (.cells #[.int .i64 kd, .int .i64 f, .int .i64 n, .slice ad5 n5 cap5] 44)).kept hgrow (b05.not_row (by decide) hrow5')).other (B' := w.heap.size + 1) (by omega) (.slice (some ⟨g', 0, none⟩) (((pre.map Subtype.val).map (Dx.lnOf ts)).length + 1) cap')
      have b2f := ((b25.alloc (.cells #[.int .i64 kd, .int .i64 f, .int .i64 n, .slice ad5 n5 cap5] 44)).kept hgrow (b25.not_row (by decide) hrow5')).other (B' := w.heap.size + 1) (by omega) (.slice (some ⟨g', 0, none⟩) (((pre.map Subtype.val).map (Dx.lnOf ts)).length + 1) cap')
      have hx : Dx.lnOf ts (f, n) = ⟨kd, f, n, tl.drop ah⟩ := by
        unfold Dx.lnOf Dx.mkLn
        rw [← HTl.out, ← HKd.out, ← HAh.out, Htl.out]
      have hmap : ((pre ++ [⟨(f, n), hok⟩] : List (Cut ts)).map Subtype.val).map (Dx.lnOf ts) = (pre.map Subtype.val).map (Dx.lnOf ts) ++ [⟨kd, f, n, tl.drop ah⟩] := by
        rw [List.map_append, List.map_append]
        show _ ++ [Dx.lnOf ts (f, n)] = _
        rw [hx]
      have hs5 : SlO w.heap.size w5 (vs ++ [.slice ad5 n5 cap5]) ((pre.map Subtype.val).map (Dx.lnOf ts) ++ [⟨kd, f, n, tl.drop ah⟩]) := hso5.snoc (by
        dsimp only
        rw [← hn5]
        exact row_base hrow5 hB4.size)
      refine ⟨(keepsFrom_below hB35).trans (hk2.from _), ⟨Eq.trans b2f (Eq.symm b2'), fun k hk => (hb2.block k hk).trans (hB35.block k (by have := hB.size; omega))⟩, ⟨⟨_, vs ++ [.slice ad5 n5 cap5], hv2, ?_, ?_⟩, b0f, b2f⟩, hB5w.trans hb2⟩
      · dsimp only
        rw [hmap, List.length_append, lnCells_snoc _ _ _ _ hso5.1]
        exact hr2
      · dsimp only
        rw [hmap]
        exact hs5.appended hrow5' hgrow hv1
    have HF := Lib.hid hfin
    clear hfin
    refine wpAny_take (i := 1) (v := .int .i64 kd) rfl (by kernel_rfl) (by kernel_rfl) (by kernel_rfl) (fun _ _ _ h => h) (Or.inl ⟨by rfl, fun w => by go_simp⟩) ?_
    simp only [Act.put, List.getElem_toArray, List.getElem_cons_zero, List.getElem_cons_succ, List.setIfInBounds_toArray, List.set_cons_zero, List.set_cons_succ]
    refine wpAny_take (i := 2) (v := .int .i64 f) rfl (by kernel_rfl) (by kernel_rfl) (by kernel_rfl) (fun _ _ _ h => h) (Or.inl ⟨by rfl, fun w => by go_simp⟩) ?_
    simp only [Act.put, List.getElem_toArray, List.getElem_cons_zero, List.getElem_cons_succ, List.setIfInBounds_toArray, List.set_cons_zero, List.set_cons_succ]
    refine wpAny_take (i := 3) (v := .int .i64 n) rfl (by kernel_rfl) (by kernel_rfl) (by kernel_rfl) (fun _ _ _ h => h) (Or.inl ⟨by rfl, fun w => by go_simp⟩) ?_
    simp only [Act.put, List.getElem_toArray, List.getElem_cons_zero, List.getElem_cons_succ, List.setIfInBounds_toArray, List.set_cons_zero, List.set_cons_succ]
    refine wpAny_take (i := 4) (v := .slice (some ⟨g, o + f * 6, none⟩) n (cap - f)) rfl (by kernel_rfl) (by kernel_rfl) (by kernel_rfl) (fun _ _ _ h => h) (Or.inl ⟨by rfl, fun w => by go_simp⟩) ?_
    simp only [Act.put, List.getElem_toArray, List.getElem_cons_zero, List.getElem_cons_succ, List.setIfInBounds_toArray, List.set_cons_zero, List.set_cons_succ]
    refine wpAny_take (i := 5) (v := .int .i64 ah) rfl (by kernel_rfl) (by kernel_rfl) (by kernel_rfl) (fun _ _ _ h => h) (Or.inl ⟨by rfl, fun w => by go_simp⟩) ?_
    simp only [Act.put, List.getElem_toArray, List.getElem_cons_zero, List.getElem_cons_succ, List.setIfInBounds_toArray, List.set_cons_zero, List.set_cons_succ]
    refine wpAny_take (i := 6) (v := .slice (some ⟨g, o + f * 6 + x, none⟩) (n - ah) (cap - f - ah)) rfl (by kernel_rfl) (by kernel_rfl) (by kernel_rfl) (fun _ _ _ h => h) (Or.inl ⟨by rfl, fun w => by go_simp; by_cases h : cap - f = ah <;> simp [h, hx0, hx1]⟩) ?_
    simp only [Act.put, List.getElem_toArray, List.getElem_cons_zero, List.getElem_cons_succ, List.setIfInBounds_toArray, List.set_cons_zero, List.set_cons_succ]
    refine wpAny_ready (rs := [0, 7]) (by kernel_rfl) (by simp) ?_
    refine AllReady.cons rfl (fun K hK => ?_) ?_
    · have HKK := Lib.hid hK
      clear hK
      have hSx := hS4
      go_simp
      refine HKK.out _ _ ?_
      clear HKK K hSx
      refine wpAny_ready (rs := [7]) (by kernel_rfl) (by simp) ?_
      refine AllReady.cons rfl (fun K hK => ?_) AllReady.nil
      have HKK := Lib.hid hK
      clear hK
      go_simp
      refine (clone_any _ (tl.drop ah) _ HK4.out (by rw [List.length_drop, Htl.out]; omega)).mono ?_
      rintro e w5 ⟨u5, rfl, hrow5, hB5⟩
      obtain ⟨ad5, cap5, rfl, -, -, -⟩ := id (Ks.of_row hrow5)
      refine HKK.out _ _ ?_
      clear HKK K
      obtain ⟨n5, hn5⟩ : ∃ n5, n5 = (tl.drop ah).length := ⟨_, rfl⟩
      rw [← hn5] at hrow5 ⊢
      have Hn5 := Lib.hid hn5
      clear hn5
      have hB5w : Below w.heap.size w w5 := hB4.trans (hB5.mono hB4.size)
      have bu5 : Boxed w5 (w.heap.size + 1) 47 u := (hB5.block _ bu4.lt).trans bu4
      have b05 : Boxed w5 w.heap.size 42 (.slice (some ⟨g, o, none⟩) N cap) := (hB5.block _ b04.lt).trans b04
      have b25 : Boxed w5 (w.heap.size + 2) 42 (.slice (some ⟨g, o, none⟩) N cap) := (hB5.block _ b24.lt).trans b24
      have hrow5' := row_below hrow4 hB5
      have hso5 := hso4.below hB5
      refine wpAny_take (i := 8) (v := .agg #[.int .i64 kd, .int .i64 f, .int .i64 n, .slice ad5 n5 cap5]) rfl (by kernel_rfl) (by kernel_rfl) (by kernel_rfl) (fun _ _ _ h => h) (Or.inl ⟨by rfl, fun w => by go_simp⟩) ?_
      simp only [Act.put, List.getElem_toArray, List.getElem_cons_zero, List.getElem_cons_succ, List.setIfInBounds_toArray, List.set_cons_zero, List.set_cons_succ]
      refine wpAny_ready (rs := [9]) (by kernel_rfl) (by simp) ?_
      refine AllReady.cons rfl (fun K hK => ?_) AllReady.nil
      have HKK := Lib.hid hK
      clear hK
      go_simp
      refine HKK.out _ _ ?_
      clear HKK K
      refine wpAny_ready (rs := [10]) (by kernel_rfl) (by simp) ?_
      refine AllReady.cons rfl (fun K hK => ?_) AllReady.nil
      have HKK := Lib.hid hK
      clear hK
      refine step_append_lies _ (by rfl) _ _ _ (by rfl) w.heap.size 44 i0 _ 4 48 Tryz.underlying47 hi hz0 hz1 hz2 rfl (by omega) u ((pre.map Subtype.val).map (Dx.lnOf ts)).length (lnCells vs ((pre.map Subtype.val).map (Dx.lnOf ts))) (by rfl) (hrow5'.alloc _)
        ⟨w5.heap.size, 0, none⟩ 1 1 [.int .i64 kd, .int .i64 f, .int .i64 n, .slice ad5 n5 cap5] (by rfl) (by rfl) (news_line _ _ _ _ _ _) (by simp [Value.oneCell']) (by omega) (by unfold maxLen; omega) (by omega) (by have := hB5w.size; simp; omega) (w5.heap.size + 1) (by simp) ?_
      intro g' cap' w6 hown' hgrow hat hlt6
      obtain ⟨hv1, hv2, hr2, hk2, hb2⟩ := bu5.appended (by decide) hrow5' hB5w.size (by omega) hown' hgrow
      have hc1' := hv1.cell
      have hf1 := hv1.frozen
      refine HKK.out _ _ ?_
      clear HKK K
      refine wpAny_ready (rs := [11]) (by kernel_rfl) (by simp) ?_
      refine AllReady.cons rfl (fun K hK => ?_) AllReady.nil
      have HKK := Lib.hid hK
      clear hK
      have HR2 := Lib.hid hr2
      have HV2 := Lib.hid hv2
      have HK2 := Lib.hid hk2
      have HB2 := Lib.hid hb2
      clear hr2 hv2 hk2 hb2
      go_simp
      refine HKK.out _ _ ?_
      refine wpAny_done (by kernel_rfl) ?_ _
      have hq := HF.out w5 w6 ad5 n5 cap5 g' cap' hB5 Hn5.out hrow5 hrow5' hso5 bu5 b05 b25 hgrow hv1 HR2.out HV2.out HK2.out HB2.out
      simp only [List.length_map] at hq
      exact hq
    refine AllReady.cons rfl (fun K hK => ?_) AllReady.nil
    have HKK := Lib.hid hK
    clear hK
    go_simp
    refine (clone_any _ (tl.drop ah) _ HK4.out (by rw [List.length_drop, Htl.out]; omega)).mono ?_
    rintro e w5 ⟨u5, rfl, hrow5, hB5⟩
    obtain ⟨ad5, cap5, rfl, -, -, -⟩ := id (Ks.of_row hrow5)
    refine HKK.out _ _ ?_
    clear HKK K
    obtain ⟨n5, hn5⟩ : ∃ n5, n5 = (tl.drop ah).length := ⟨_, rfl⟩
    rw [← hn5] at hrow5 ⊢
    have Hn5 := Lib.hid hn5
    clear hn5
    have hB5w : Below w.heap.size w w5 := hB4.trans (hB5.mono hB4.size)
    have bu5 : Boxed w5 (w.heap.size + 1) 47 u := (hB5.block _ bu4.lt).trans bu4
    have b05 : Boxed w5 w.heap.size 42 (.slice (some ⟨g, o, none⟩) N cap) := (hB5.block _ b04.lt).trans b04
    have b25 : Boxed w5 (w.heap.size + 2) 42 (.slice (some ⟨g, o, none⟩) N cap) := (hB5.block _ b24.lt).trans b24
    have hrow5' := row_below hrow4 hB5
    have hso5 := hso4.below hB5
    refine wpAny_take (i := 8) (v := .agg #[.int .i64 kd, .int .i64 f, .int .i64 n, .slice ad5 n5 cap5]) rfl (by kernel_rfl) (by kernel_rfl) (by kernel_rfl) (fun _ _ _ h => h) (Or.inl ⟨by rfl, fun w => by go_simp⟩) ?_
    simp only [Act.put, List.getElem_toArray, List.getElem_cons_zero, List.getElem_cons_succ, List.setIfInBounds_toArray, List.set_cons_zero, List.set_cons_succ]
    refine wpAny_ready (rs := [0, 9]) (by kernel_rfl) (by simp) ?_
    refine AllReady.cons rfl (fun K hK => ?_) ?_
    · have HKK := Lib.hid hK
      clear hK
      have hSx := bu5.cell
      go_simp
      refine HKK.out _ _ ?_
      clear HKK K hSx
      refine wpAny_ready (rs := [9]) (by kernel_rfl) (by simp) ?_
      refine AllReady.cons rfl (fun K hK => ?_) AllReady.nil
      have HKK := Lib.hid hK
      clear hK
      go_simp
      refine HKK.out _ _ ?_
      clear HKK K
      refine wpAny_ready (rs := [10]) (by kernel_rfl) (by simp) ?_
      refine AllReady.cons rfl (fun K hK => ?_) AllReady.nil
      have HKK := Lib.hid hK
      clear hK
      refine step_append_lies _ (by rfl) _ _ _ (by rfl) w.heap.size 44 i0 _ 4 48 Tryz.underlying47 hi hz0 hz1 hz2 rfl (by omega) u ((pre.map Subtype.val).map (Dx.lnOf ts)).length (lnCells vs ((pre.map Subtype.val).map (Dx.lnOf ts))) (by rfl) (hrow5'.alloc _)
        ⟨w5.heap.size, 0, none⟩ 1 1 [.int .i64 kd, .int .i64 f, .int .i64 n, .slice ad5 n5 cap5] (by rfl) (by rfl) (news_line _ _ _ _ _ _) (by simp [Value.oneCell']) (by omega) (by unfold maxLen; omega) (by omega) (by have := hB5w.size; simp; omega) (w5.heap.size + 1) (by simp) ?_
      intro g' cap' w6 hown' hgrow hat hlt6
      obtain ⟨hv1, hv2, hr2, hk2, hb2⟩ := bu5.appended (by decide) hrow5' hB5w.size (by omega) hown' hgrow
      have hc1' := hv1.cell
      have hf1 := hv1.frozen
      refine HKK.out _ _ ?_
      clear HKK K
      refine wpAny_ready (rs := [11]) (by kernel_rfl) (by simp) ?_
      refine AllReady.cons rfl (fun K hK => ?_) AllReady.nil
      have HKK := Lib.hid hK
      clear hK
      have HR2 := Lib.hid hr2
      have HV2 := Lib.hid hv2
      have HK2 := Lib.hid hk2
      have HB2 := Lib.hid hb2
      clear hr2 hv2 hk2 hb2
      go_simp
      refine HKK.out _ _ ?_
      refine wpAny_done (by kernel_rfl) ?_ _
      have hq := HF.out w5 w6 ad5 n5 cap5 g' cap' hB5 Hn5.out hrow5 hrow5' hso5 bu5 b05 b25 hgrow hv1 HR2.out HV2.out HK2.out HB2.out
      simp only [List.length_map] at hq
      exact hq
    refine AllReady.cons rfl (fun K hK => ?_) AllReady.nil
    have HKK := Lib.hid hK
    clear hK
    go_simp
    refine HKK.out _ _ ?_
    clear HKK K
    refine wpAny_ready (rs := [0]) (by kernel_rfl) (by simp) ?_
    refine AllReady.cons rfl (fun K hK => ?_) AllReady.nil
    have HKK := Lib.hid hK
    clear hK
    have hSx := Lib.cell?_alloc_some (.cells #[.int .i64 kd, .int .i64 f, .int .i64 n, .slice ad5 n5 cap5] 44) bu5.cell
    go_simp
    refine HKK.out _ _ ?_
    clear HKK K hSx
    refine wpAny_ready (rs := [10]) (by kernel_rfl) (by simp) ?_
    refine AllReady.cons rfl (fun K hK => ?_) AllReady.nil
    have HKK := Lib.hid hK
    clear hK
    refine step_append_lies _ (by rfl) _ _ _ (by rfl) w.heap.size 44 i0 _ 4 48 Tryz.underlying47 hi hz0 hz1 hz2 rfl (by omega) u ((pre.map Subtype.val).map (Dx.lnOf ts)).length (lnCells vs ((pre.map Subtype.val).map (Dx.lnOf ts))) (by rfl) (hrow5'.alloc _)
      ⟨w5.heap.size, 0, none⟩ 1 1 [.int .i64 kd, .int .i64 f, .int .i64 n, .slice ad5 n5 cap5] (by rfl) (by rfl) (news_line _ _ _ _ _ _) (by simp [Value.oneCell']) (by omega) (by unfold maxLen; omega) (by omega) (by have := hB5w.size; simp; omega) (w5.heap.size + 1) (by simp) ?_
    intro g' cap' w6 hown' hgrow hat hlt6
    obtain ⟨hv1, hv2, hr2, hk2, hb2⟩ := bu5.appended (by decide) hrow5' hB5w.size (by omega) hown' hgrow
    have hc1' := hv1.cell
    have hf1 := hv1.frozen
    refine HKK.out _ _ ?_
    clear HKK K
    refine wpAny_ready (rs := [11]) (by kernel_rfl) (by simp) ?_
    refine AllReady.cons rfl (fun K hK => ?_) AllReady.nil
    have HKK := Lib.hid hK
    clear hK
    have HR2 := Lib.hid hr2
    have HV2 := Lib.hid hv2
    have HK2 := Lib.hid hk2
    have HB2 := Lib.hid hb2
    clear hr2 hv2 hk2 hb2
    go_simp
    refine HKK.out _ _ ?_
    refine wpAny_done (by kernel_rfl) ?_ _
    have hq := HF.out w5 w6 ad5 n5 cap5 g' cap' hB5 Hn5.out hrow5 hrow5' hso5 bu5 b05 b25 hgrow hv1 HR2.out HV2.out HK2.out HB2.out
    simp only [List.length_map] at hq
    exact hq
  case done =>
    rintro D ys W hD hys ⟨⟨⟨u, vs, bu, hrow, hso⟩, _, _⟩, hB⟩ hK
    have cL := bu.cell
    rw [hys] at hrow hso
    gi_wp2
    refine ⟨by simp, .inl ⟨_, _, rfl, run_takeDeferred hK, ?_⟩⟩
    refine ⟨_, results_tmp rfl _ _ _, u, rfl, Lns.of_row (ownsRow_putObj hrow _ hK rfl) (SlO.slK (b := w.heap.size) (hso.kept (grownBy_putObj' _ D _) fun r e cur hc => by cases e; rw [hK] at hc; cases hc)), hB.trans (belowK_b (w := w) (Nat.le_refl _) W D _ _ (by omega) hK rfl rfl)⟩
  case stop =>
    rintro D c pre W _ _ h _
    exact h.elim

/-- Lines: new memory that holds just the lines of tokens. -/
theorem lines_any (v : Value) (ts : List K) (w : World) (hv : Ks w v ts) (hl : ts.length * 56 ≤ 140737488355328) (hG : Glob w) :
    Calls Tryz.prog 31 #[v] w fun e W' => ∃ u, e = .returned u ∧ Lns W' u (Dx.lines ts) ∧ Below w.heap.size w W' :=
  callsIn_wide.1 (lines_in 3 (by omega) v ts w hv hl hG)
end Go.Proofs.YtdopmmnabhcigaaGreatDoor

/- What is proved: slices of texts and of files in memory; the program's gathered texts. -/
namespace Go.Proofs.YtdopmmnabhcigaaGreatDoor
open Go.RowKit Go.Shelf

theorem below_cof {W W' : World} {a : Addr} {v : Value} (h : Below W.heap.size W W') (hc : W.cell? a = some v) : W'.cell? a = some v := (h.cell (lt_of_cell hc)).trans hc
def strCells (l : List ByteArray) : List Value := l.map .string
theorem strCells_append (a b : List ByteArray) : strCells (a ++ b) = strCells a ++ strCells b := List.map_append
theorem strCells_length (a : List ByteArray) : (strCells a).length = a.length := List.length_map _
theorem strCells_get {ps : List ByteArray} {k : Nat} {s : ByteArray} (h : ps[k]? = some s) : (strCells ps)[k]? = some (.string s) := by
  simp [strCells, h]
theorem strCells_tx (l : List (List UInt8)) : strCells (l.map Wo.tx) = l.map encStr := by
  simp [strCells, encStr, Wo.tx]
theorem infoStr : (Tryz.prog.info? 9).map (fun i => (i.zero, i.size, i.bytes)) = some (some (.string ByteArray.empty), 1, 16) := by kernel_rfl
theorem infoFile : (Tryz.prog.info? 33).map (fun i => (i.zero, i.size, i.bytes)) = some (some (.agg #[.string ByteArray.empty, .string ByteArray.empty]), 2, 32) := by kernel_rfl

/-- A slice value whose elements are these texts. -/
def Sts (W : World) (v : Value) (ps : List ByteArray) : Prop :=
  ∃ ad cap, v = .slice ad ps.length cap ∧ ps.length ≤ cap ∧ cap ≤ maxLen ∧ ∀ i s, ps[i]? = some s → ∃ g o, ad = some ⟨g, o, none⟩ ∧ W.cell? ⟨g, o + i, none⟩ = some (.string s)
theorem Sts.keep {W W' : World} {v : Value} {ps : List ByteArray} (h : Sts W v ps) (hk : ∀ (a : Addr) u, W.cell? a = some u → W'.cell? a = some u) : Sts W' v ps := by
  obtain ⟨ad, cap, rfl, h1, h2, h3⟩ := h
  refine ⟨ad, cap, rfl, h1, h2, fun i s hs => ?_⟩
  obtain ⟨g, o, e, c⟩ := h3 i s hs
  exact ⟨g, o, e, hk _ _ c⟩
theorem Sts.below {W W' : World} {v : Value} {ps : List ByteArray} (h : Sts W v ps) (hb : Below W.heap.size W W') : Sts W' v ps := h.keep fun _ _ hc => below_cof hb hc
theorem Sts.none_at (W : World) (ad : Option Addr) (cap : Nat) (hc : cap ≤ maxLen) : Sts W (.slice ad 0 cap) [] :=
  ⟨ad, cap, rfl, Nat.zero_le _, hc, fun i s hs => by simp at hs⟩
theorem Sts.of_row {W : World} {base n : Nat} {v : Value} {ps : List ByteArray} (h : W.ownsRow base 9 1 v n (strCells ps)) : Sts W v ps := by
  obtain rfl : n = ps.length := by have := h.1; rw [strCells_length] at this; omega
  have hc := fun g => h.cells (g := g)
  rcases h.2 with ⟨rfl, h0⟩ | ⟨g, cap, cur, rfl, _, _, h1, h2, _, _⟩
  · refine ⟨none, 0, by rw [h0], by omega, Nat.zero_le _, fun i x hx => ?_⟩
    rw [List.length_eq_zero_iff.1 h0] at hx
    simp at hx
  · refine ⟨_, cap, rfl, h1, h2, fun i t ht => ⟨g, 0, rfl, ?_⟩⟩
    have := hc g rfl i _ (strCells_get ht)
    rwa [add_none] at this
theorem Sts.cells {W : World} {ad : Option Addr} {n cap : Nat} {ps : List ByteArray} (h : Sts W (.slice ad n cap) ps) (hl : 0 < ps.length) :
    ∃ g o, ad = some ⟨g, o, none⟩ ∧ n = ps.length ∧ ps.length ≤ cap ∧ cap ≤ maxLen ∧ g < W.heap.size ∧ ∀ i s, ps[i]? = some s → W.cell? ⟨g, o + i, none⟩ = some (.string s) := by
  obtain ⟨ad', cap', e, h1, h2, h3⟩ := h
  injection e with e1 e2 e3
  subst e1 e2 e3
  obtain ⟨g, o, rfl, c0⟩ := h3 0 _ (List.getElem?_eq_getElem hl)
  refine ⟨g, o, rfl, rfl, h1, h2, lt_of_cell c0, fun i s hs => ?_⟩
  obtain ⟨g', o', e, c⟩ := h3 i s hs
  injection e with e
  injection e with e1 e2
  subst e1 e2
  exact c

/-! ### Files -/
def flCells : Wo.Fs → List Value
  | [] => []
  | f :: r => [.string f.1, .string f.2] ++ flCells r
theorem flCells_append (a b : Wo.Fs) : flCells (a ++ b) = flCells a ++ flCells b := by
  induction a with
  | nil => rfl
  | cons f r ih => simp [flCells, ih]
theorem flCells_length (a : Wo.Fs) : (flCells a).length = a.length * 2 := by
  induction a with
  | nil => rfl
  | cons f r ih => simp [flCells, ih]; omega
theorem flCells_get (a : Wo.Fs) : ∀ i f, a[i]? = some f → (flCells a)[i * 2]? = some (.string f.1) ∧ (flCells a)[i * 2 + 1]? = some (.string f.2) := by
  induction a with
  | nil => intro i f h; simp at h
  | cons g r ih =>
    intro i f h
    cases i with
    | zero => simp at h; subst h; exact ⟨rfl, rfl⟩
    | succ i =>
      simp at h
      have := ih i f h
      rw [flCells, show (i + 1) * 2 = i * 2 + 2 by omega]
      exact ⟨by simpa using this.1, by simpa using this.2⟩
/-- A slice value whose elements are these files. -/
def Fls (W : World) (v : Value) (fs : Wo.Fs) : Prop :=
  ∃ ad cap, v = .slice ad fs.length cap ∧ fs.length ≤ cap ∧ cap ≤ maxLen ∧ ∀ i f, fs[i]? = some f → ∃ g o, ad = some ⟨g, o, none⟩ ∧ W.cell? ⟨g, o + i * 2, none⟩ = some (.string f.1) ∧ W.cell? ⟨g, o + i * 2 + 1, none⟩ = some (.string f.2)
theorem Fls.keep {W W' : World} {v : Value} {fs : Wo.Fs} (h : Fls W v fs) (hk : ∀ (a : Addr) u, W.cell? a = some u → W'.cell? a = some u) : Fls W' v fs := by
  obtain ⟨ad, cap, rfl, h1, h2, h3⟩ := h
  refine ⟨ad, cap, rfl, h1, h2, fun i s hs => ?_⟩
  obtain ⟨g, o, e, c, d⟩ := h3 i s hs
  exact ⟨g, o, e, hk _ _ c, hk _ _ d⟩
theorem Fls.below {W W' : World} {v : Value} {fs : Wo.Fs} (h : Fls W v fs) (hb : Below W.heap.size W W') : Fls W' v fs := h.keep fun _ _ hc => below_cof hb hc
theorem Fls.none_at (W : World) (ad : Option Addr) (cap : Nat) (hc : cap ≤ maxLen) : Fls W (.slice ad 0 cap) [] :=
  ⟨ad, cap, rfl, Nat.zero_le _, hc, fun i s hs => by simp at hs⟩
theorem Fls.of_row {W : World} {base n : Nat} {v : Value} {fs : Wo.Fs} (h : W.ownsRow base 33 2 v n (flCells fs)) : Fls W v fs := by
  obtain rfl : n = fs.length := by have := h.1; rw [flCells_length] at this; omega
  have hc := fun g => h.cells (g := g)
  rcases h.2 with ⟨rfl, h0⟩ | ⟨g, cap, cur, rfl, _, _, h1, h2, _, _⟩
  · refine ⟨none, 0, by rw [h0], by omega, Nat.zero_le _, fun i x hx => ?_⟩
    rw [List.length_eq_zero_iff.1 h0] at hx
    simp at hx
  · refine ⟨_, cap, rfl, h1, h2, fun i t ht => ⟨g, 0, rfl, ?_, ?_⟩⟩
    · have := hc g rfl (i * 2) _ (flCells_get fs i t ht).1
      rwa [add_none] at this
    · have := hc g rfl (i * 2 + 1) _ (flCells_get fs i t ht).2
      rwa [add_none] at this
theorem Fls.cells {W : World} {ad : Option Addr} {n cap : Nat} {fs : Wo.Fs} (h : Fls W (.slice ad n cap) fs) (hl : 0 < fs.length) :
    ∃ g o, ad = some ⟨g, o, none⟩ ∧ n = fs.length ∧ fs.length ≤ cap ∧ cap ≤ maxLen ∧ g < W.heap.size ∧ ∀ i f, fs[i]? = some f → W.cell? ⟨g, o + i * 2, none⟩ = some (.string f.1) ∧ W.cell? ⟨g, o + i * 2 + 1, none⟩ = some (.string f.2) := by
  obtain ⟨ad', cap', e, h1, h2, h3⟩ := h
  injection e with e1 e2 e3
  subst e1 e2 e3
  obtain ⟨g, o, rfl, c0, _⟩ := h3 0 _ (List.getElem?_eq_getElem hl)
  refine ⟨g, o, rfl, rfl, h1, h2, lt_of_cell c0, fun i s hs => ?_⟩
  obtain ⟨g', o', e, c⟩ := h3 i s hs
  injection e with e
  injection e with e1 e2
  subst e1 e2
  exact c

/-! ### Gathered texts -/
theorem keyStr : Go.Maps.Keyed Tryz.prog 9 := Go.Maps.string_keyed Tryz.underlying9
/-- A map's block that has these texts, and at most so many entries. -/
def Gth (W : World) (mb n : Nat) (L : List ByteArray) : Prop :=
  ∃ D, W.ownsMap (H := Unit) Tryz.prog 9 (unitElem (H := Unit)) mb n D ∧ ∀ x : List UInt8, Go.Maps.has D (.string x) = Wo.has L (Wo.tx x)
section
variable {W W' : World} {mb n : Nat} {L : List ByteArray}
theorem Gth.lt (h : Gth W mb n L) : mb < W.heap.size := by obtain ⟨D, h, _⟩ := h; exact h.lt
theorem Gth.kept {row : Option Nat} (h : Gth W mb n L) (hg : W.grownBy W' row) (hne : some mb ≠ row) : Gth W' mb n L := by
  obtain ⟨D, h1, h2⟩ := h
  exact ⟨D, h1.kept hg hne, h2⟩
theorem Gth.below (h : Gth W mb n L) (hb : Below W.heap.size W W') : Gth W' mb n L :=
  h.kept (row := none) ⟨hb.os, hb.tape, hb.output, hb.size, fun k hk _ => hb.block k hk⟩ (by simp)
theorem Gth.mono (h : Gth W mb n L) {n' : Nat} (hn : n ≤ n') : Gth W mb n' L := by
  obtain ⟨D, h1, h2⟩ := h
  exact ⟨D, h1.mono hn, h2⟩
theorem Gth.same {L' : List ByteArray} (h : Gth W mb n L) (he : ∀ x, Wo.has L x = Wo.has L' x) : Gth W mb n L' := by
  obtain ⟨D, h1, h2⟩ := h
  exact ⟨D, h1, fun x => (h2 x).trans (he _)⟩
theorem Gth.new (W : World) : Gth (W.alloc (.map #[] 0)) W.heap.size 0 [] := ⟨_, World.ownsMap_made W Tryz.prog 9 _, fun x => rfl⟩
theorem Gth.not_cells (h : Gth W mb n L) : ∃ o : Obj, W.heap[mb]? = some o ∧ o.isCells = false := by
  obtain ⟨D, ⟨es, clock, h1, _⟩, _⟩ := h
  exact ⟨_, h1, rfl⟩
end
theorem tx_eq {x y : List UInt8} : Wo.tx x = Wo.tx y ↔ x = y := ⟨fun h => by rw [← Wo.bl_tx x, h, Wo.bl_tx], fun h => by rw [h]⟩
theorem has_snoc (L : List ByteArray) (s x : ByteArray) : Wo.has (L ++ [s]) x = (Wo.has L x || decide (s = x)) := by simp [Wo.has]
/-- What a put makes of what a map has. -/
theorem has_put {D : DataW Unit} (hD : Go.Maps.IsMap D) {L : List ByteArray} (h : ∀ x : List UInt8, Go.Maps.has D (.string x) = Wo.has L (Wo.tx x)) (s : ByteArray) (u : DataW Unit) :
    ∀ x : List UInt8, Go.Maps.has (D.put (.string s.data.toList) u) (.string x) = Wo.has (L ++ [s]) (Wo.tx x) := by
  intro x
  rw [has_snoc]
  by_cases e : x = s.data.toList
  · subst e
    rw [Go.Maps.has_put_same hD (by simp [WideAt.IsKeyLit])]
    simp [Wo.tx]
  · rw [Go.Maps.has_put_other (by simpa using e), h x]
    have : ¬ (s = Wo.tx x) := fun h' => e (by rw [h']; exact (Wo.bl_tx x).symm)
    simp [this]
end Go.Proofs.YtdopmmnabhcigaaGreatDoor

/- What is proved: how the statements' arguments are opened, and how a call that leaves all old memory alone is closed. -/
namespace Go.Proofs.YtdopmmnabhcigaaGreatDoor
open Go.ChangeShapes Go.WideShapes Go.ChangeAt Go.RowKit Go.Deep

theorem Tryz.own : ownKnob Tryz.prog.godebug = none := by kernel_rfl
theorem Tryz.laidOut : laidOutB Tryz.prog = true := by kernel_rfl
theorem cells3 : Tryz.prog.cellsOf 3 = 1 := by kernel_rfl

theorem spot_none {w : World} {a : Addr} {v : Value} (h : w.cell? a = some v) : a = ⟨a.block, a.off, none⟩ := by
  obtain ⟨b, o, s⟩ := a
  cases s with
  | none => rfl
  | some s =>
    unfold World.cell? at h
    split at h
    · simp at h
    · cases h

theorem int_top {a : Int} (h : (Lit.int .i64 a).wf = true) : a ≤ 9223372036854775807 := by
  unfold Lit.wf at h
  rw [Bool.and_eq_true] at h
  have h2 := of_decide_eq_true h.2
  rw [IntKind.max_i64] at h2
  exact h2

section
variable {H : Type} {enc : TypeId × Value → H}

/-- All arguments read as they did. -/
theorem stays_all {P : Program} (hl : laidOutB P = true) {W W' : World} (hb : Below W.heap.size W W') : ∀ {ts : List TypeId} {vs : List Value} {ds : List (DataW H)} {ps : List MemPlace}, (ts.all fun t => P.readableRec t && decide (t < P.types.size)) = true →
    DataW.TrodAll enc P W 0 (fun _ => true) true ts vs ds ps → (∀ x ∈ ps, x.block < W.heap.size) → DataW.TrodAll enc P W' 0 (fun b => decide (b < W.heap.size)) true ts vs ds ps := by
  intro ts
  induction ts with
  | nil =>
    intro vs ds ps _ h _
    obtain ⟨rfl, rfl, rfl⟩ := trodAll_nil h
    exact trodAll_mk0
  | cons t ts ih =>
    intro vs ds ps hr h hlt
    obtain ⟨v, vs', d, ds', p, q, rfl, rfl, rfl, h0, r0⟩ := trodAll_cons h
    simp only [List.all_cons, Bool.and_eq_true, decide_eq_true_iff] at hr
    exact trodAll_cons_mk (Below.trod hl hr.1.1 hr.1.2 h0 hb fun x hx => hlt x (List.mem_append_left _ hx)) (ih hr.2 r0 fun x hx => hlt x (List.mem_append_right _ hx))

theorem cellsFile : Tryz.prog.cellsOf 33 = 2 := by kernel_rfl
theorem cells9 : Tryz.prog.cellsOf 9 = 1 := by kernel_rfl

set_option maxRecDepth 100000 in
/-- A list of texts that came in. -/
theorem open_names {W : World} {r : Reach} {b0 : Nat} {v : Value} {d : DataW H} {ps : List MemPlace} (hv : Value.okWide Tryz.prog W r b0 25 v) (h : DataW.Trod enc Tryz.prog W 0 (fun _ => true) true 25 v d ps) :
    ∃ ts : List ByteArray, Sts W v ts := by
  obtain ⟨Ad, k, cap, rfl⟩ := okWide_slice Tryz.underlying25 hv
  obtain ⟨fuel, h⟩ := h
  rcases open_strs Tryz.underlying25 Tryz.underlying9 cells9 h with ⟨e, hx⟩ | ⟨a, len, cap', m, Sx, hcs, _, hl, hmx, hm, hx, hcell⟩
  · have e' : (Value.slice Ad k cap) = .slice none 0 0 := by simpa [Value.cells] using e
    rw [e']
    exact ⟨[], Sts.none_at _ _ _ (Nat.zero_le _)⟩
  · have e' : (Value.slice Ad k cap) = .slice (some a) len cap' := by simpa [Value.cells] using hcs
    injection e' with e1 e2 e3
    subst e1 e2 e3
    have hm' : m = cap := by simpa using hm
    refine ⟨(List.range k).map Sx, ⟨some a, cap, by simp, by simpa using hl, hmx, fun i x hix => ?_⟩⟩
    have hi : i < k := by have := (List.getElem?_eq_some_iff.1 hix).1; simpa using this
    rw [List.getElem?_map, List.getElem?_range hi] at hix
    simp only [Option.map_some, Option.some.injEq] at hix
    subst hix
    have z := (hcell i (by omega)).1
    have hsp : a = ⟨a.block, a.off, none⟩ := by
      have z0 := (hcell 0 (by omega)).1
      have e : a.add 0 = a := by unfold Addr.add; simp
      rw [e] at z0
      exact spot_none z0
    generalize a.block = ab at hsp
    generalize a.off = ao at hsp
    subst hsp
    rw [add_none] at z
    exact ⟨ab, ao, rfl, z⟩

set_option maxRecDepth 100000 in
theorem open_file {W : World} {base fuel : Nat} {sp : Nat → Bool} {hd : Bool} {cs : List Value} {x : DataW H × List MemPlace} (h : DataW.trod enc Tryz.prog W base sp hd fuel 33 cs = some x) : ∃ f : ByteArray × ByteArray, cs = [.string f.1, .string f.2] ∧ f.1.size ≤ maxLen ∧ f.2.size ≤ maxLen := by
  obtain ⟨ys, n, _, _, hl, hyl, hf⟩ := DataW.trod_struct Tryz.underlying33 h
  rw [cellsFile] at hl
  match cs, hl with
  | [c0, c1], _ =>
    have get : ∀ (i : Nat), i < ys.length → ∃ y, ys[i]? = some y := fun i hi => ⟨_, List.getElem?_eq_getElem hi⟩
    have e : ys.length = 2 := hyl
    obtain ⟨y0, e0⟩ := get 0 (by omega)
    obtain ⟨y1, e1⟩ := get 1 (by omega)
    have f0 := (hf 0 _ rfl).trans e0
    have f1 := (hf 1 _ rfl).trans e1
    obtain ⟨A, g0, _, hA⟩ := DataW.trod_string Tryz.underlying9 f0
    obtain ⟨B, g1, _, hB⟩ := DataW.trod_string Tryz.underlying9 f1
    simp [cells9] at g0 g1
    exact ⟨(A, B), by rw [g0, g1], hA, hB⟩

set_option maxRecDepth 100000 in
/-- A list of files that came in. -/
theorem open_files {W : World} {r : Reach} {b0 : Nat} {v : Value} {d : DataW H} {ps : List MemPlace} (hv : Value.okWide Tryz.prog W r b0 22 v) (h : DataW.Trod enc Tryz.prog W 0 (fun _ => true) true 22 v d ps) :
    ∃ fs : Wo.Fs, Fls W v fs ∧ ∀ f ∈ fs, f.2.size ≤ maxLen ∧ f.1.size ≤ maxLen := by
  obtain ⟨Ad, k, cap, rfl⟩ := okWide_slice Tryz.underlying22 hv
  obtain ⟨fuel, h⟩ := h
  rcases open_slice Tryz.underlying22 h with ⟨e, _⟩ | ⟨a, len, cap', m, n, D, Pl, hcs, _, hl, hmx, hm, hd, hx⟩
  · have e' : (Value.slice Ad k cap) = .slice none 0 0 := by simpa [Value.cells] using e
    rw [e']
    exact ⟨[], Fls.none_at _ _ 0 (Nat.zero_le _), by simp⟩
  · have e' : (Value.slice Ad k cap) = .slice (some a) len cap' := by simpa [Value.cells] using hcs
    injection e' with e1 e2 e3
    subst e1 e2 e3
    have hm' : m = cap := by simpa using hm
    have hall : ∀ i, i < k → ∃ f : ByteArray × ByteArray, W.cells? 0 (a.add (i * 2)) 2 = some [.string f.1, .string f.2] ∧ f.2.size ≤ maxLen ∧ f.1.size ≤ maxLen := fun i hi => by
      obtain ⟨cs', hc, ht⟩ := hx i (by omega)
      rw [cellsFile] at hc
      obtain ⟨f, rfl, h1, h2⟩ := open_file ht
      exact ⟨f, hc, h2, h1⟩
    obtain ⟨F, hF⟩ := Classical.axiomOfChoice (fun i : Fin k => hall i.1 i.2)
    have hlen : (List.ofFn F).length = k := by simp
    refine ⟨List.ofFn F, ⟨some a, cap, by rw [hlen], by rw [hlen]; exact hl, hmx, fun i t hit => ?_⟩, fun t ht => by obtain ⟨i, rfl⟩ := List.mem_ofFn.1 ht; exact (hF i).2⟩
    have hi : i < k := by have := (List.getElem?_eq_some_iff.1 hit).1; rwa [hlen] at this
    have hFi : F ⟨i, hi⟩ = t := by rw [List.getElem?_ofFn, dif_pos hi] at hit; exact Option.some.inj hit
    have hsp : a = ⟨a.block, a.off, none⟩ := by
      obtain ⟨_, _, hat0⟩ := World.cells?_some (hF ⟨0, by omega⟩).1
      have z := hat0 0 (by omega)
      rw [Go.Deep.add_add] at z
      simp only [Nat.zero_mul, Nat.add_zero, List.getElem?_cons_zero] at z
      have e : a.add 0 = a := by unfold Addr.add; simp
      rw [e] at z
      exact spot_none z
    obtain ⟨_, _, hat⟩ := World.cells?_some (hF ⟨i, hi⟩).1
    have q0 := hat 0 (by omega)
    have q1 := hat 1 (by omega)
    rw [hFi, Go.Deep.add_add] at q0 q1
    simp only [List.getElem?_cons_zero, List.getElem?_cons_succ] at q0 q1
    generalize a.block = ab at hsp
    generalize a.off = ao at hsp
    subst hsp
    rw [add_none] at q0 q1
    exact ⟨ab, ao, rfl, q0, q1⟩

/-- A law that answers true and leaves old memory alone is what its row asks. -/
theorem law_post {f : Func} {s : ChangeSpec} {W W' : World} {args : Array Value} {ds gs : List (DataW H)} {before pa : List MemPlace} (hW : DataW.Whole enc Tryz.prog f.params.toList s.vars false W args.toList ds gs before)
    (hA : DataW.TrodAll enc Tryz.prog W 0 (fun _ => true) true f.params.toList args.toList ds pa) (hv : s.vars = []) (hfn : (s.fn H (ds ++ gs)).results = [.lit (.bool true)] ∧ (s.fn H (ds ++ gs)).args = ds ∧ (s.fn H (ds ++ gs)).vars = [])
    (hres : f.resultTypes.toList = [4]) (hr : (f.params.toList.all fun t => Tryz.prog.readableRec t && decide (t < Tryz.prog.types.size)) = true) (hpa : ∀ x ∈ pa, x ∈ before) (hbp : ∀ x ∈ before, x ∈ pa) (hb : Below W.heap.size W W') :
    s.post enc Tryz.prog f false true false false W args (.bool true) W' := by
  have hsz : f.resultTypes.size = 1 := by rw [← Array.length_toList, hres]; rfl
  refine ⟨ds, gs, before, [], pa, [], hW, ?_, ?_, ?_, World.keptBut_mono (fun p hp => ⟨hp, .inr (.inl (hbp p hp))⟩) (hb.frame (· ∈ before)), fun h => by cases h⟩
  · rw [hres, hfn.1, hsz]
    exact trodAll_mk1 (shut_bool Tryz.underlying4 true)
  · rw [hfn.2.1]
    exact stays_all Tryz.laidOut hb hr hA fun x hx => hW.lt x (hpa x hx)
  · rw [hv, hfn.2.2]
    rfl
end
/-! ### The table of signs, as its initialiser lays it -/
theorem gSigns : Tryz.prog.globalNamed "emend/pptok.signs" = some 1 := by kernel_rfl
theorem tSigns : (Tryz.prog.globals[1]?).map (·.type) = some 124 := by kernel_rfl
theorem cellsStr : Tryz.prog.cellsOf 9 = 1 := by kernel_rfl
def laid1 : List (String × DataW Unit) := [("emend/direct.words", Rows.laid_emend_direct_words), ("emend/pptok.signs", Rows.laid_emend_pptok_signs)]
theorem laid_tab : (Rows.laid_emend_pptok_signs : DataW Unit) = .agg (Lx.signTab.map fun b => .lit (.string b)) := by kernel_rfl
theorem gWords : Tryz.prog.globalNamed "emend/direct.words" = some 0 := by kernel_rfl
theorem tWords : (Tryz.prog.globals[0]?).map (·.type) = some 114 := by kernel_rfl
theorem laid_words : (Rows.laid_emend_direct_words : DataW Unit) = .agg (wordTab.map fun b => .lit (.string b)) := by kernel_rfl

theorem signs_of_laid {W : World} (h : laidMetH Tryz.prog laid1 W) : ∃ t fz, W.heap[1]? = some (.cells signCells t fz) := by
  rw [MakeChecks.laidMetH_plain _ _ _ (by kernel_rfl)] at h
  obtain ⟨ps, ⟨_, _, _, _, _, _, _, _, _, _, ⟨g, t, cs, fuel, p, q, hg, ht, hv, hd, _, _⟩, _⟩, _, _⟩ := h
  obtain rfl := Option.some.inj (gSigns.symm.trans hg)
  obtain rfl := Option.some.inj (tSigns.symm.trans ht)
  rw [laid_tab] at hd
  obtain ⟨xs, m, rfl, hx, hlen, hn, hel⟩ := DataW.trod_array Tryz.underlying124 hd
  have hx1 : (Lx.signTab.map fun b => (DataW.lit (.string b) : DataW Unit)) = xs.map (·.1) := by
    have := congrArg Prod.fst hx
    simpa using this
  have hc48 : Tryz.prog.cellsOf 124 = 48 := by kernel_rfl
  rw [hc48] at hlen
  have hcs : cs = signCells := by
    apply Array.toList_inj.1
    apply List.ext_getElem?
    intro i
    by_cases hi : i < 48
    · obtain ⟨x, hxi⟩ : ∃ x, xs[i]? = some x := ⟨_, List.getElem?_eq_getElem (by rw [hn]; exact hi)⟩
      have h1 := hel i hi
      rw [hxi, cellsStr, Nat.mul_one] at h1
      obtain ⟨s, e1, e2, _⟩ := DataW.trod_string Tryz.underlying9 h1
      have h2 : cs.toList[i]? = some (.string s) := by
        have := congrArg (·[0]?) e1
        simpa [List.getElem?_take, List.getElem?_drop] using this
      have h3 := congrArg (·[i]?) hx1
      simp only [List.getElem?_map, hxi, Option.map_some, e2, Option.map_eq_some_iff, DataW.lit.injEq, Lit.string.injEq] at h3
      obtain ⟨b, hb, rfl⟩ := h3
      rw [h2]
      unfold signCells
      rw [List.getElem?_map, hb]
      rfl
    · rw [List.getElem?_eq_none (by omega), List.getElem?_eq_none (by show 48 ≤ i; omega)]
  rw [hcs] at hv
  simp only [World.var?, gSigns, Option.bind_some] at hv
  split at hv
  · rename_i c t fz hh
    injection hv with hv
    subst hv
    exact ⟨t, fz, hh⟩
  · cases hv

theorem words_of_laid {W : World} (h : laidMetH Tryz.prog laid1 W) : ∃ t fz, W.heap[0]? = some (.cells wordCells t fz) := by
  rw [MakeChecks.laidMetH_plain _ _ _ (by kernel_rfl)] at h
  obtain ⟨ps, ⟨g, t, cs, fuel, p, q, hg, ht, hv, hd, _, _⟩, _, _⟩ := h
  obtain rfl := Option.some.inj (gWords.symm.trans hg)
  obtain rfl := Option.some.inj (tWords.symm.trans ht)
  rw [laid_words] at hd
  obtain ⟨xs, m, rfl, hx, hlen, hn, hel⟩ := DataW.trod_array Tryz.underlying114 hd
  have hx1 : (wordTab.map fun b => (DataW.lit (.string b) : DataW Unit)) = xs.map (·.1) := by
    have := congrArg Prod.fst hx
    simpa using this
  have hc12 : Tryz.prog.cellsOf 114 = 12 := by kernel_rfl
  rw [hc12] at hlen
  have hcs : cs = wordCells := by
    apply Array.toList_inj.1
    apply List.ext_getElem?
    intro i
    by_cases hi : i < 12
    · obtain ⟨x, hxi⟩ : ∃ x, xs[i]? = some x := ⟨_, List.getElem?_eq_getElem (by rw [hn]; exact hi)⟩
      have h1 := hel i hi
      rw [hxi, cellsStr, Nat.mul_one] at h1
      obtain ⟨s, e1, e2, _⟩ := DataW.trod_string Tryz.underlying9 h1
      have h2 : cs.toList[i]? = some (.string s) := by
        have := congrArg (·[0]?) e1
        simpa [List.getElem?_take, List.getElem?_drop] using this
      have h3 := congrArg (·[i]?) hx1
      simp only [List.getElem?_map, hxi, Option.map_some, e2, Option.map_eq_some_iff, DataW.lit.injEq, Lit.string.injEq] at h3
      obtain ⟨b, hb, rfl⟩ := h3
      rw [h2]
      unfold wordCells
      rw [List.getElem?_map, hb]
      rfl
    · rw [List.getElem?_eq_none (by omega), List.getElem?_eq_none (by show 12 ≤ i; omega)]
  rw [hcs] at hv
  simp only [World.var?, gWords, Option.bind_some] at hv
  split at hv
  · rename_i c t fz hh
    injection hv with hv
    subst hv
    exact ⟨t, fz, hh⟩
  · cases hv

/-- The heap that the initialisers leave meets the condition. -/
theorem door_met (os : Os) (args : Array Value) : laidMetH Tryz.prog laid1 ((World.doorLaid Tryz.prog 19 os).forCall (fun _ _ => 0) ⟨#[], args, []⟩).memory :=
  laidMetH_of_parts3 (fuel := 8) (laidMet_of_run' 8 (by kernel_rfl) (by kernel_rfl)) (by kernel_rfl) (by kernel_rfl)

section
variable {H : Type} {enc : TypeId × Value → H}

/-- A law that lists a variable, and that reads one of the library's own: what is laid, and the world's shape, are both at hand. -/
theorem returns_laid {a : Assume} {C : Checked} {os : Os} {f : FuncId} {fn : Func} {s : ChangeSpec} {conds : List PathCond} {apart fresh handsOn again : Bool} {laid : List (String × DataW Unit)}
    (own : ownKnob C.prog.godebug = none) (started : os.Started) (noInit : C.prog.inits.idxOf? f = none) (hfn : C.prog.funcs[f]? = some fn)
    (witness : ∃ (w : World) (tape : Tape) (i : Input), w.os = os ∧ (w.forCall tape i).Shaped C.prog ∧ i.vars = [] ∧ Input.okWide C.prog (w.forCall tape i) .any w.heap.size f i ∧
      ((s.pre enc C.prog fn conds apart (w.forCall tape i).memory i.args ∧ laidMetH C.prog laid (w.forCall tape i).memory) ∧ sizedMet enc C.prog fn (OpenSpec.ofChange s) apart (w.forCall tape i).memory i.args) ∧ a.holds C.prog (lone (Frame.enter C.prog f i.args .normal) [] (w.forCall tape i)))
    (contract : ∀ (W : World) (base : Nat) (args : Array Value) (ds gs : List (DataW H)) (before : List MemPlace),
      (∀ (j : Nat) t v, fn.params[j]? = some t → args[j]? = some v → Value.okWide C.prog W .any base t v) → DataW.Whole enc C.prog fn.params.toList s.vars apart W args.toList ds gs before →
      laidMetH C.prog laid W → W.ShapedOpen C.prog → (DataW.weightsEach C.prog (fn.params.toList ++ (OpenSpec.ofChange s).bare.plain.varTypes C.prog) (ds ++ gs)).all (· ≤ reachBytes) = true → Calls C.prog f args W fun e W' => ∃ v, e = .returned v ∧ s.post enc C.prog fn apart fresh handsOn again W args v W') :
    ReturnsInHanded a C os f .any (fun w args => (s.pre enc C.prog fn conds apart w args ∧ laidMetH C.prog laid w) ∧ sizedMet enc C.prog fn (OpenSpec.ofChange s) apart w args) (s.post enc C.prog fn apart fresh handsOn again) := by
  refine returnsInHanded_of_calls own started noInit witness ?_
  intro w tape i _ hsh _ hok hpre _
  obtain ⟨_, _, _, fn', hfn', _, _, _, _, hval⟩ := hok
  obtain rfl : fn' = fn := Option.some.inj (hfn'.symm.trans hfn)
  obtain ⟨⟨_, hl⟩, _, ds, gs, before, hw, hsz⟩ := hpre
  refine (contract (w.forCall tape i) w.heap.size i.args ds gs before hval (DataW.Whole.of_heap (w' := w.forCall tape i) (by rfl) hw) (hl.of_heap (by rfl)) hsh hsz).mono fun e W' ⟨v, he, hp⟩ => ?_
  subst he
  exact ChangeSpec.post_blind hp
theorem glob_of {W : World} (hl : laidMetH Tryz.prog laid1 W) (hs : W.ShapedOpen Tryz.prog) : Glob W := ⟨Glob.shaped_int hs, signs_of_laid hl, words_of_laid hl⟩
end
end Go.Proofs.YtdopmmnabhcigaaGreatDoor

/- What is proved: what add and words make of gathered texts. -/
namespace Go.Proofs.YtdopmmnabhcigaaGreatDoor
open Go.RowKit Go.Shelf

theorem grown_trans {u v w : World} {r : Option Nat} (h : u.grownBy v r) (k : v.grownBy w r) : u.grownBy w r := h.andThen k fun j e => .inr e
theorem grown_al {u v : World} {r : Option Nat} (h : u.grownBy v r) (o : Obj) : u.grownBy (v.alloc o) r := grown_trans h (World.grownBy_alloc v o r)
theorem grownN {w w' : World} (h : Below w.heap.size w w') (row : Option Nat) : w.grownBy w' row := ⟨h.os, h.tape, h.output, h.size, fun k hk _ => h.block k hk⟩
theorem grown_below {u v w : World} {r : Option Nat} (h : u.grownBy v r) (k : Below v.heap.size v w) : u.grownBy w r :=
  grown_trans h ⟨k.os, k.tape, k.output, k.size, fun i hi _ => k.block i hi⟩

set_option maxRecDepth 100000 in
set_option maxHeartbeats 2000000 in
theorem gadd_any (mb n : Nat) (L : List ByteArray) (s : ByteArray) (hs : s.size ≤ maxLen) (hn : n < 100000000) (w : World) (hg : Gth w mb n L) :
    Calls Tryz.prog 25 #[.map (some mb), .string s] w fun e w' => e = .returned (.bool (!Wo.has L s)) ∧ Gth w' mb (n + 1) (L ++ [s]) ∧ w.grownBy w' (some mb) := by
  obtain ⟨D, hown, hD⟩ := hg
  have hsz := Go.Maps.size_put (k := .string s.data.toList) (hown.tidy keyStr) (.agg [] : DataW Unit)
  have hh : Go.Maps.has D (.string s.data.toList) = Wo.has L s := by rw [hD]; exact congrArg _ (Wo.tx_bl s)
  rw [hh] at hsz
  have hput := has_put hown.isMap hD s (.agg [] : DataW Unit)
  have hkey := Go.WideMaps.keyOf_string_mk (P := Tryz.prog) Tryz.underlying9 hs
  have hb : decide (Go.Maps.size D < Go.Maps.size (D.put (.string s.data.toList) (.agg [] : DataW Unit))) = !Wo.has L s := by
    rw [hsz]
    cases Wo.has L s <;> simp
  have HB := Lib.hid hb
  have HPut := Lib.hid hput
  have hnm : n < maxLen := by unfold maxLen; omega
  clear hD hsz hh hput hb hn
  go_enter Tryz.func25, Tryz.ntmps25
  go_wp2_with (first
    | (at_mapUpdate; refine wpList_mapUpdate_own _ rfl _ _ _ 38 rfl 9 64 keyStr Tryz.underlying38 _ mb n _ rfl hown hnm _ _ _ rfl rfl hkey _ [] unitElem_mk ?_; intro w1 hown1 hgrow1)
    | (at_len; refine wpList_len_own _ rfl _ 38 rfl 9 64 Tryz.underlying38 _ mb (n + 1) _ rfl hown1 ?_)
    | (at_len; refine wpList_len_own _ rfl _ 38 rfl 9 64 Tryz.underlying38 _ mb n D rfl hown ?_)
    | fail)
  go_ret
  exact ⟨ret_bool HB.out, ⟨_, hown1, HPut.out⟩, hgrow1⟩

theorem words_take {ts : List K} {k : Nat} {t : K} (h : ts[k]? = some t) : Wo.words (ts.take (k + 1)) = Wo.words (ts.take k) ++ (if t.kind == 1 then [t.text] else []) := by
  unfold Wo.words
  rw [List.take_add_one, h]
  cases hk : t.kind == 1 <;> simp [hk]

theorem kat_ne_map {W : World} {g o mb n : Nat} {t : K} {L : List ByteArray} (h : KAt W g o t) (hm : Gth W mb n L) : g ≠ mb := by
  rintro rfl
  obtain ⟨x, h1, h2⟩ := hm.not_cells
  obtain ⟨y, h3, h4⟩ := cells_of_cell h.1
  rw [h1] at h3
  cases h3
  rw [h2] at h4
  cases h4

set_option maxRecDepth 100000 in
set_option maxHeartbeats 4000000 in
theorem gwords_any (mb n : Nat) (L : List ByteArray) (v : Value) (ts : List K) (hsz : ∀ t ∈ ts, t.text.size ≤ maxLen) (hn : n + ts.length < 100000000) (w : World) (hg : Gth w mb n L) (hv : Ks w v ts) :
    Calls Tryz.prog 27 #[.map (some mb), v] w fun e w' => e = .returned (.tuple #[]) ∧ Gth w' mb (n + ts.length) (L ++ Wo.words ts) ∧ w.grownBy w' (some mb) := by
  obtain ⟨ad, cap, rfl, hc1, hc2, -⟩ := id hv
  unfold maxLen at hc2
  have HSz := Lib.hid hsz
  clear hsz
  rcases Nat.eq_zero_or_pos ts.length with hz | hpos
  · have hts : ts = [] := List.length_eq_zero_iff.1 hz
    subst hts
    have HG := Lib.hid hg
    clear hv hg
    go_enter Tryz.func27, Tryz.ntmps27
    go_wp2_with fail
    go_loop [8] (fun i => i = .int .i64 0) (fun _ => 0)
    case atStart => rfl
    case round =>
      obtain rfl := hrel
      go_wp2_with fail
      go_end0
      exact ⟨rfl, by simpa [Wo.words] using HG.out, ⟨rfl, rfl, rfl, Nat.le_refl _, fun _ _ _ => rfl⟩⟩
  · obtain ⟨g, o, rfl, -, -, -, hgl, hcell⟩ := hv.cells hpos
    have hne : g ≠ mb := kat_ne_map (hcell 0 _ (List.getElem?_eq_getElem hpos)) hg
    obtain ⟨N, hN⟩ : ∃ N, N = ts.length := ⟨_, rfl⟩
    rw [← hN] at hn hc1 hpos ⊢
    have HN := Lib.hid hN
    have HC := Lib.hid hcell
    have HNe := Lib.hid hne
    clear hN hv hcell hne
    go_enter Tryz.func27, Tryz.ntmps27
    go_wp2_with fail
    go_loopw [8] (fun i wr => ∃ k : Nat, i = .int .i64 k ∧ k ≤ N ∧ Gth wr mb (n + k) (L ++ Wo.words (ts.take k)) ∧ w.grownBy wr (some mb)) (fun i _ => N - (intOf i).toNat)
    case atStart => exact ⟨0, rfl, Nat.zero_le _, by simpa [Wo.words] using hg, ⟨rfl, rfl, rfl, Nat.le_refl _, fun _ _ _ => rfl⟩⟩
    case round =>
      obtain ⟨k, rfl, hk, hgk, hgr⟩ := hrel
      by_cases hlt : k < N
      · obtain ⟨t, ht⟩ : ∃ t, ts[k]? = some t := ⟨_, List.getElem?_eq_getElem (by rw [← HN.out]; exact hlt)⟩
        have hka := (HC.out k t ht).kept (hgr.block g hgl (fun e => HNe.out (by injection e)))
        have htx := HSz.out t (List.mem_of_getElem? ht)
        have hwt := words_take ht
        obtain ⟨kd, tx, fl, fr, en, bl⟩ := t
        obtain ⟨c0, c1, c2, c3, c4, c5⟩ := hka
        dsimp only at c0 c1 c2 c3 c4 c5 htx hwt
        have hg2 := hgk.kept (World.grownBy_alloc wr (.cells #[.int .i64 kd, .string tx, .int .i64 fl, .int .i64 fr, .int .i64 en, .bool bl] 50) none) (by simp)
        have hgr2 := grown_al hgr (.cells #[.int .i64 kd, .string tx, .int .i64 fl, .int .i64 fr, .int .i64 en, .bool bl] 50)
        have HWt := Lib.hid hwt
        have HG2 := Lib.hid hg2
        have HGr2 := Lib.hid hgr2
        clear ht hwt hgk hgr hg2 hgr2
        by_cases hkd : kd = 1
        · subst hkd
          have key := gadd_any mb (n + k) (L ++ Wo.words (ts.take k)) tx htx (by omega) _ HG2.out
          go_wp2_with fail
          refine key.mono ?_
          rintro e w3 ⟨rfl, hg3, hgr3⟩
          have HG3 := Lib.hid hg3
          have HGr3 := Lib.hid hgr3
          clear key hg3 hgr3
          go_wp2_with fail
          go_roundw
          case rel =>
            refine ⟨k + 1, by go_num, by omega, ?_, grown_trans HGr2.out HGr3.out⟩
            rw [HWt.out, if_pos (by rfl), ← List.append_assoc]
            exact HG3.out
          case measure => simp [intOf]; omega
        · have t1 : (kd == 1) = false := by simpa using hkd
          have HT := Lib.hid t1
          go_wp2_with fail
          go_roundw
          case rel =>
            refine ⟨k + 1, by go_num, by omega, ?_, HGr2.out⟩
            rw [HWt.out, if_neg (by rw [HT.out]; simp), List.append_nil]
            exact HG2.out.mono (by omega)
          case measure => simp [intOf]; omega
      · obtain rfl : k = N := by omega
        have hfin : Gth wr mb (n + k) (L ++ Wo.words ts) := by
          rw [HN.out, List.take_length, ← HN.out] at hgk
          exact hgk
        have HF := Lib.hid hfin
        have HGr := Lib.hid hgr
        clear hgk hfin hgr
        go_wp2_with fail
        go_end0
        exact ⟨rfl, HF.out, HGr.out⟩
end Go.Proofs.YtdopmmnabhcigaaGreatDoor

/- What is proved: what sorted tells of gathered texts: they, in order, in new memory. -/
namespace Go.Proofs.YtdopmmnabhcigaaGreatDoor
open Go.RowKit Go.Shelf Go.Sort

theorem sort_none (w : World) : Calls Tryz.prog 32 #[.slice none 0 0] w fun e w' => e = .returned (.tuple #[]) ∧ w = w' :=
  (Any.slices_Sort_string_none lays190 none 0 w).mono fun _ _ h => ⟨h.1, h.2.symm⟩

set_option maxRecDepth 100000 in
set_option maxHeartbeats 4000000 in
theorem gsorted_any (mb n : Nat) (L : List ByteArray) (hn : n < 100000000) (w : World) (hg : Gth w mb n L) :
    Calls Tryz.prog 20 #[.map (some mb)] w fun e w' => ∃ v, e = .returned v ∧ w'.ownsRow w.heap.size 9 1 v (Wo.srt L).length (strCells (Wo.srt L)) ∧ Below w.heap.size w w' := by
  obtain ⟨i0, hi, hz0, hz1, hz2⟩ := info_parts infoStr
  obtain ⟨D0, hown, hD⟩ := hg
  have hmb := hown.lt
  have hsl := hown.size_le
  have HD := Lib.hid hD
  clear hD
  go_enter Tryz.func20, Tryz.ntmps20
  go_wp2_with (first
    | (at_range; refine wpList_range_own _ rfl _ 38 rfl 9 64 keyStr Tryz.underlying38 _ mb n _ rfl hown ?_; intro w0 hrg0 hg0 hs0)
    | fail)
  go_frame
  go_loopw [3] (fun v wr => ∃ (left : Lit → Bool) (cnt : Nat) (ss : List (List UInt8)), wr.ranges Tryz.prog 9 (unitElem (H := Unit)) mb w.heap.size n D0 left cnt ∧ ss.length + cnt ≤ Go.Maps.size D0 ∧
      wr.ownsRow w.heap.size 9 1 v ss.length (ss.map encStr) ∧ Collected D0 left ss ∧ Below w.heap.size w wr)
    (fun _ wr => wr.rangeLeft mb w.heap.size)
  case atStart =>
    exact ⟨_, _, [], hrg0, by simp, World.ownsRow_nil _ _ _ _, Collected.start D0, (Below.refl _ _).grown hg0 (Nat.le_refl _) (fun j hj => by cases hj)⟩
  case round =>
    obtain ⟨left, cnt, ss, hrg, hcs, hrow, hC, hnx⟩ := hrel
    go_wp2_with (first
      | (at_next; refine wpList_next_ranges _ rfl _ rfl 9 keyStr (unitElem (H := Unit)) encStr (fun _ : Unit => Value.agg #[]) (fun key kl hk => by obtain ⟨x, hx, _⟩ := Maps.keyOf_str Tryz.underlying9 hk; exact ⟨x, hx⟩) (fun v y hv => ⟨(), (unitElem_inv hv).1⟩) mb w.heap.size n _ _ _ rfl hrg ?_ ?_)
      | fail)
    · intro hc0 hl0
      have hm : ∀ x : ByteArray, Wo.bl x ∈ ss ↔ x ∈ L := fun x => by
        rw [hC.2, hl0, HD.out, Wo.tx_bl, Wo.has_iff]
        simp
      have hfin := Wo.srt_merge hC.1 hm
      have hlen : (Wo.srt L).length = ss.length := by rw [← hfin]; simp
      have HF := Lib.hid hfin
      have HL := Lib.hid hlen
      clear hm hfin hlen
      rcases hrow.2 with ⟨hnil, h0⟩ | ⟨g, cap, cur, rfl, hbase, hb, h1, h2, h3, h4⟩
      · subst hnil
        have hss : ss = [] := List.length_eq_zero_iff.1 h0
        subst hss
        go_wp2_with (first | (go_at_call 32; refine (sort_none _).mono ?_; rintro e w' ⟨rfl, rfl⟩) | fail)
        go_ret
        refine ⟨_, rfl, ?_, hnx⟩
        rw [← HF.out]
        simpa [strCells] using World.ownsRow_nil _ _ _ _
      · have hH : Holds encStr wr g 0 ss.toArray := holds_of_block hb (by simpa using h4)
        have hgl : g < wr.heap.size := (Array.getElem?_eq_some_iff.1 hb).1
        have hc : Calls Tryz.prog 32 _ _ _ := Any.slices_Sort_string lays190 g 0 cap ss wr hH hgl (by omega)
        go_wp2_with (first | (go_at_call 32; refine hc.mono ?_; rintro e w' ⟨rfl, nn, os, rfl⟩) | fail)
        go_ret
        refine ⟨_, rfl, ?_, hnx.grown (grownBy_sorted _) hnx.size (fun j hj => by cases hj; exact hbase)⟩
        rw [HL.out, ← HF.out, strCells_tx]
        exact ownsRow_sorted (by simp) hbase hb h1 h2 h3
    · intro x kl yd yp w2 cnt2 hkey hlk hv hat hrg2 hlt hg2 hs2 hen
      obtain ⟨x', ex, rfl, _⟩ := Maps.keyOf_str Tryz.underlying9 hkey
      obtain rfl : x = x' := encStr_inj ex
      have hrow2 := hrow.kept hg2 (Or.inr (row_ne_iter hrow hrg).symm)
      clear hs2
      go_wp2_with (first
        | (at_builtin; refine wpList_append_own _ rfl _ _ 25 rfl w.heap.size 9 i0 (.string ByteArray.empty) 1 16 Tryz.underlying25 hi hz0 hz1 hz2 rfl (by decide) _ _ _ rfl (hrow2.alloc _) ⟨w2.heap.size, 0, none⟩ 1 1 [encStr x] rfl rfl (cell_one_new _ _ _) (by simp [Value.oneCell', encStr]) (by unfold maxLen; omega) (by omega) (by have := hnx.size; have := hg2.size; simp; omega) ?_; intro v' w3 hown' hg3 hnil3; go_frame)
        | fail)
      have hrg3 := (hrg2.alloc _).kept hg3 (row_ne_low hrow2 hmb) (row_ne_iter hrow2 hrg2)
      go_roundw
      case rel =>
        refine ⟨_, cnt2, ss ++ [x], hrg3, by simp; omega, by simpa using hown', hC.step hlk hat, ?_⟩
        exact ((hnx.grown hg2 hnx.size (fun j hj => by cases hj; exact Nat.le_refl _)).alloc (by have := hnx.size; have := hg2.size; omega) _).grown hg3 (by have := hnx.size; have := hg2.size; simp; omega) (fun j hj => (hrow2.lt j hj).1)
      case measure => rw [hrg3.left_eq, hrg.left_eq]; exact hlt
end Go.Proofs.YtdopmmnabhcigaaGreatDoor

/- A line's value. -/
namespace Go.Proofs.YtdopmmnabhcigaaGreatDoor
open Go.RowKit Go.Shelf
def lnAgg (k f n : Int) (v : Value) : Value := .agg #[.int .i64 k, .int .i64 f, .int .i64 n, v]
end Go.Proofs.YtdopmmnabhcigaaGreatDoor
