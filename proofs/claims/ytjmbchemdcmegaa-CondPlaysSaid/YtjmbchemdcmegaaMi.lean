/- What is proved: take, of the reader. -/
import Derived.Test.YtjmbchemdcmegaaMh
import Derived.StillTailTactics
namespace Go.Proofs.Ytjmbchemdcmegaa
open Go.RowKit
open Ct Ct.T

abbrev Same' (w w' : World) : Prop := Only w w' (fun _ => False)
theorem Same'.gr {w w' : World} (h : Same' w w') (v : Value) : Gr w w' v v := ⟨⟨h.os, h.tape, h.output, h.size, fun k hk _ => h.block k hk (fun x => x)⟩, fun _ e => .inl e⟩
theorem Same'.trans {a b c : World} (h : Same' a b) (k : Same' b c) : Same' a c :=
  ⟨k.os.trans h.os, k.tape.trans h.tape, k.output.trans h.output, Nat.le_trans h.size k.size, fun i hi _ => (k.block i (Nat.lt_of_lt_of_le hi h.size) (fun x => x)).trans (h.block i hi (fun x => x))⟩
theorem Same'.alloc (w : World) (o : Obj) : Same' w (w.alloc o) := ⟨rfl, rfl, rfl, by simp, fun k hk _ => Below.heap_alloc w o k hk⟩
theorem Same'.drewN (w : World) (q : Nat) : Same' w (w.drewN q) := ⟨rfl, rfl, rfl, Nat.le_refl _, fun _ _ _ => rfl⟩
theorem Same'.drew (w : World) : Same' w w.drew := ⟨rfl, rfl, rfl, Nat.le_refl _, fun _ _ _ => rfl⟩
theorem Same'.of_nil {w w' : World} {n c : Nat} {u' : Value} (h : Gr w w' (.slice none n c) u') : Same' w w' := ⟨h.g.os, h.g.tape, h.g.output, h.g.size, fun k hk _ => h.block hk (by simp [nil_own])⟩
theorem Same'.set_new {w w' : World} (h : Same' w w') {a : Addr} (ha : w.heap.size ≤ a.block) (u : Value) : Same' w (w'.setCell a u) :=
  ⟨h.os, h.tape, h.output, by simpa using h.size, fun k hk _ => by rw [Below.heap_setCell _ _ _ _ (by omega)]; exact h.block k hk (fun x => x)⟩
theorem Same'.below {w w' : World} (h : Same' w w') {B : Nat} (hB : B ≤ w.heap.size) : Below B w w' := Only.below h hB (fun _ x => x.elim)

set_option maxRecDepth 100000 in
set_option maxHeartbeats 4000000 in
theorem take_begins {W : World} {base R : Nat} {out : T} {st : List Fm} {tv iv : Value} {vs : List (Value × Value)} {cs xs : List Value} {m : Nat} (i : Nat) (k : Int) (hk : begins k = true) (h : RS W base R (out, st) tv iv vs cs xs) (hm : Sm m (out, st)) (hm' : m ≤ 900000) (hb : base ≤ W.heap.size) :
    Calls Try.prog 20 #[.pointer (some ⟨R, 0, none⟩), .int .i64 i, .int .i64 k] W (StepPost W base R (out, ⟨i, false, nil, i, nil⟩ :: st)) := by
  have hm2 := hm.2.1
  dsimp only at hm2
  have hcs : (k == 2) = true ∨ ((k == 2) = false ∧ (k == 3) = true) ∨ ((k == 2) = false ∧ (k == 3) = false ∧ (k == 4) = true) := by
    rw [begins] at hk
    cases h2 : k == 2 <;> cases h3 : k == 3 <;> cases h4 : k == 4 <;> simp_all
  have H := Lib.hid h
  have HM := Lib.hid hm
  obtain ⟨n, hn⟩ : ∃ n, n = st.length := ⟨_, rfl⟩
  rw [← hn] at hm2
  have Hn := Lib.hid hn
  clear hk hn h hm
  rcases hcs with q1 | ⟨q1, q2⟩ | ⟨q1, q2, q3⟩
  all_goals
    go_enter Try.func20, Try.ntmps20
    go_wp2_with fail
    have hbx : (W.alloc (.cells #[.int .i64 i, .int .i64 0, .slice none 0 0, .bool false] 55)).heap[W.heap.size]? = some (.cells #[.int .i64 i, .int .i64 0, .slice none 0 0, .bool false] 55 (0, 0)) := heap_alloc_new W _
    refine (begin_any W.heap.size 0 i 0 base (.slice none 0 0) [] _ (by simp) (frozen_of_row _ _ _ _ _ hbx) (World.ownsRow_nil _ _ _ _) (by simp [nil_own]) (by simp; omega) (by omega)).mono ?_
    rintro e w1 ⟨rfl, bv, W1, hG, hrow, rfl⟩
    have hbl : W1.heap[W.heap.size]? = some (.cells #[.int .i64 i, .int .i64 0, .slice none 0 0, .bool false] 55 (0, 0)) := (hG.block (by simp) (by simp [nil_own])).trans hbx
    have hnew : ∀ k, bv.ownBlock = some k → W.heap.size + 1 ≤ k := fun k e => by
      rcases hG.own k e with h | h
      · cases h
      · simpa using h
    have hO1 : Same' W (W1.setCell ⟨W.heap.size, 0 + 2, none⟩ bv) := ((Same'.alloc W _).trans (Same'.of_nil hG)).set_new (Nat.le_refl _) bv
    obtain ⟨gb, bc, hbv, -⟩ := row_form1 hrow
    have hrow2 : (W1.setCell ⟨W.heap.size, 0 + 2, none⟩ bv).ownsRow base 41 2 bv 1 [.int .i64 i, .slice none 0 0] := ownsRow_setCell_other hrow (fun e => by have := hnew _ e; dsimp only at this; omega) _
    have hbl2 : (W1.setCell ⟨W.heap.size, 0 + 2, none⟩ bv).heap[W.heap.size]? = some (.cells #[.int .i64 i, .int .i64 0, bv, .bool false] 55 (0, 0)) := by
      simp [World.setCell, Array.getElem?_modify, hbl]
    generalize (W1.setCell ⟨W.heap.size, 0 + 2, none⟩ bv) = W2 at hO1 hrow2 hbl2 ⊢
    subst hbv
    have c0 : W2.cell? ⟨W.heap.size, 0, none⟩ = some (.int .i64 i) := by simp [World.cell?, hbl2]
    have c1 : W2.cell? ⟨W.heap.size, 1, none⟩ = some (.int .i64 0) := by simp [World.cell?, hbl2]
    have c2 : W2.cell? ⟨W.heap.size, 2, none⟩ = some (.slice (some ⟨gb, 0, none⟩) (0 + 1) bc) := by simp [World.cell?, hbl2]
    have c3 : W2.cell? ⟨W.heap.size, 3, none⟩ = some (.bool false) := by simp [World.cell?, hbl2]
    go_wp2_with fail
    go_still_tail 4, (by kernel_rfl)
    change wpList _ _ _ _ _ W2.drew
    have hO2 := hO1.trans (Same'.drew W2)
    have hrow3 : W2.drew.ownsRow base 41 2 (.slice (some ⟨gb, 0, none⟩) (0 + 1) bc) 1 [.int .i64 i, .slice none 0 0] := hrow2
    clear c0 c1 c2 c3 hO1 hrow2 hbl2
    generalize W2.drew = W3 at hO2 hrow3 ⊢
    have h3 := H.out.keep hO2
    have HC := Lib.hid h3.c1
    have HF := Lib.hid (h3.fz 1)
    have ht := h3.trow
    dsimp only at ht
    rw [← Hn.out] at ht
    have HT := Lib.hid ht
    have HNR := Lib.hid (h3.nR _ (mem_own.2 (.inl rfl)))
    have HO := Lib.hid hO2
    have HR3 := Lib.hid hrow3
    have HNW := Lib.hid hnew
    have hsz := hO2.size
    clear h3 ht hO2 hrow3 hnew hG hrow hbl hbx
    go_wp2_with fail
    refine (push_any R n base i 1 bc (some ⟨gb, 0, none⟩) false tv cs W3 HC.out HF.out HT.out HNR.out (by omega) (by omega)).mono ?_
    rintro e w4 ⟨rfl, tv', W4, hG4, hrow4, q, rfl⟩
    have hbv4 : W4.ownsRow base 41 2 (.slice (some ⟨gb, 0, none⟩) 1 bc) 1 [.int .i64 i, .slice none 0 0] := row_heap HR3.out fun k e => hG4.block (HR3.out.lt k e).2 fun e' => by
      have h1 := HNW.out k e
      have h2 := (H.out.trow.lt k e').2
      omega
    have hne : Ap tv' (.slice (some ⟨gb, 0, none⟩) 1 bc) := fun k e e' => by
      have h1 := HNW.out k e'
      have h4 := (HR3.out.lt k e').2
      rcases hG4.own k e with h2 | h2
      · have h2 := (H.out.trow.lt k h2).2; omega
      · omega
    rw [Hn.out] at hrow4
    obtain ⟨h5, h6⟩ := H.out.pushed ((HO.out.gr tv).trans hG4) hrow4 hbv4 (fun k e => by have := HNW.out k e; omega) hne
    have hfin : StepPost W base R (out, ⟨i, false, nil, i, nil⟩ :: st) (.returned (.tuple #[])) ((W4.setCell ⟨R, 1, none⟩ tv').drewN q) := by
      refine ⟨rfl, ⟨_, _, _, _, _, h5.drewN q⟩, ?_⟩
      have := h6.below hb (fun k x => by
        rcases x with x | rfl
        · exact (H.out.trow.lt k x).1
        · exact H.out.hR)
      exact below_drewN this q
    have HFin := Lib.hid hfin
    clear hfin h5 h6 hne hbv4 hrow4 hG4
    go_wp2_with fail
    exact bodyPost_ret (v := .tuple #[]) (by simp [results, Try.results20, go_sem]) rfl HFin.out

set_option maxRecDepth 100000 in
set_option maxHeartbeats 4000000 in
theorem take_parts {W : World} {base R : Nat} {out : T} {f : Fm} {st : List Fm} {tv iv : Value} {vs : List (Value × Value)} {cs xs : List Value} {m : Nat} (i : Nat) (k : Int) (hk : parts k = true) (h : RS W base R (out, f :: st) tv iv vs cs xs) (hm : Sm m (out, f :: st)) (hm' : m ≤ 900000) (hb : base ≤ W.heap.size) :
    Calls Try.prog 20 #[.pointer (some ⟨R, 0, none⟩), .int .i64 i, .int .i64 k] W (StepPost W base R (out, ⟨f.line, k == 6, f.dn.snoc f.b 0 f.cur, i, nil⟩ :: st)) := by
  have hm2 := hm.2.1
  have hm3 := hm.2.2 f (by simp)
  simp only [List.length_cons] at hm2
  have hcs : ((k == 2) = false ∧ (k == 3) = false ∧ (k == 4) = false) ∧ (((k == 5) = true ∧ (k == 6) = false) ∨ ((k == 5) = false ∧ (k == 6) = true)) := by
    rw [parts_iff] at hk
    rcases hk with rfl | rfl <;> simp
  obtain ⟨E, hE⟩ : ∃ E, E = (k == 6) := ⟨_, rfl⟩
  rw [← hE]
  rw [← hE] at hcs
  have hE' := hE.symm
  obtain ⟨bv, lv, vs', cs', bxs, lxs, gt, tc, gb, bc, rfl, rfl, hf, hfs, htv, ht1, hbv, c0, c1, c2, c3, c4, c5, c6, n1, n2⟩ := h.top
  have hc1 := h.c1
  rw [htv] at hc1
  obtain ⟨n, hn⟩ : ∃ n, n = st.length := ⟨_, rfl⟩
  rw [← hn] at hm2 hc1
  have HC := Lib.hid hc1
  have hfin : ∀ q w' bv' W1, Gr ((W.drewN q).setCell ⟨gt, n * 4 + 3, none⟩ (.bool E)) W1 bv bv' → W1.ownsRow base 41 2 bv' (f.dn.len + 1 + 1) (bxs ++ [.int .i64 f.b, lv] ++ [.int .i64 i, .slice none 0 0]) → w' = W1.setCell ⟨gt, n * 4 + 2, none⟩ bv' → StepPost W base R (out, ⟨f.line, E, f.dn.snoc f.b 0 f.cur, i, nil⟩ :: st) (.returned (.tuple #[])) w' := by
    intro q w' bv' W1 hG hrow he
    have hq := h.drewN q
    have hk : ∀ g, okb R (own tv iv ((bv, lv) :: vs')) g → g < W.heap.size → okb R (own tv iv ((bv, lv) :: vs')) g ∧ (W.drewN q).heap[g]? = W.heap[g]? := fun g hg _ => ⟨hg, rfl⟩
    obtain ⟨e1, e2, e3, e4⟩ := hq.els E (hf.keep hk (fun _ _ => rfl) (fun _ _ => rfl)) (Frs.keep hk _ _ _ hfs (fun _ _ _ _ => rfl)) htv
    rw [hn] at hG
    obtain ⟨e5, e6⟩ := e1.begun e2 e3 hG hrow htv
    rw [he, hn]
    refine ⟨rfl, ⟨_, _, _, _, _, e5⟩, ?_⟩
    have hgt : base ≤ gt := (h.trow.lt gt (by rw [htv]; rfl)).1
    refine ((Same'.drewN W q).below hb).trans ((e4.below (B := base) hb (by rintro k rfl; exact hgt)).trans (e6.below (by simpa using hb) ?_))
    rintro k (x | rfl)
    · exact (hf.brow.lt k x).1
    · exact hgt
  have hrow1 : ∀ q, ((W.drewN q).setCell ⟨gt, n * 4 + 3, none⟩ (.bool E)).ownsRow base 41 2 bv (f.dn.len + 1) (bxs ++ [.int .i64 f.b, lv]) := fun q => ownsRow_setCell_other (w := W.drewN q) hf.brow n1 _
  have hcell : ∀ q, ((W.drewN q).setCell ⟨gt, n * 4 + 3, none⟩ (.bool E)).cell? ⟨gt, n * 4 + 2, none⟩ = some bv := fun q => by
    rw [World.cell?_setCell_other _ _ _ _ (by simp), hn]
    exact c2
  have hfr : ∀ q, ((W.drewN q).setCell ⟨gt, n * 4 + 3, none⟩ (.bool E)).frozen? ⟨gt, n * 4 + 2, none⟩ = false := fun q => by
    rw [World.frozen?_setCell]
    exact c4 _
  have C3 := fun q => (show (W.drewN q).cell? ⟨gt, n * 4 + 3, none⟩ = some (.bool f.els) by rw [hn]; exact c3)
  have C4 := fun q => (show (W.drewN q).frozen? ⟨gt, n * 4 + 3, none⟩ = false from c4 _)
  have HFin := Lib.hid hfin
  have HR1 := Lib.hid hrow1
  have HCell := Lib.hid hcell
  have HFr := Lib.hid hfr
  have HN1 := Lib.hid n1
  obtain ⟨dn, hdn⟩ : ∃ dn, dn = f.dn.len := ⟨_, rfl⟩
  rw [← hdn] at hm3
  have Hdn := Lib.hid hdn
  clear hdn hfin hrow1 hcell hfr n1 n2 c0 c1 c2 c3 c4 c5 c6 hbv htv hf hfs h hc1 hn hm hk hE
  obtain ⟨⟨p1, p2, p3⟩, hcs⟩ := hcs
  rcases hcs with ⟨p4, p5⟩ | ⟨p4, p5⟩
  all_goals
    subst p5
    go_enter Try.func20, Try.ntmps20
    go_wp2_with fail
    refine (top_cons R gt n tc W HC.out (by omega)).mono ?_
    rintro e w' ⟨rfl, q, rfl⟩
    have c3 := C3 q
    have c4 := C4 q
    go_wp2_with fail
    refine (begin_any gt (n * 4) i (dn + 1) base bv (bxs ++ [.int .i64 f.b, lv]) _ (HCell.out q) (HFr.out q) (by rw [Hdn.out]; exact HR1.out q) HN1.out (by simpa using hb) (by omega)).mono ?_
    rintro e w5 ⟨rfl, bv', W1, hG, hrow, he⟩
    rw [Hdn.out] at hrow
    have HF5 := Lib.hid (HFin.out q w5 bv' W1 hG hrow he)
    clear hG hrow he c3 c4
    go_wp2_with fail
    exact bodyPost_ret (v := .tuple #[]) (by simp [results, Try.results20, go_sem]) rfl HF5.out

theorem plain_facts {k : Int} (hk : plain k = true) : (k == 2) = false ∧ (k == 3) = false ∧ (k == 4) = false ∧ (k == 5) = false ∧ (k == 6) = false ∧ (k == 7) = false := by
  simp only [plain, begins, parts, Bool.and_eq_true, Bool.not_eq_true', Bool.or_eq_false_iff] at hk
  simp [hk]

set_option maxRecDepth 100000 in
set_option maxHeartbeats 4000000 in
theorem take_plain {W : World} {base R : Nat} {s : S} {tv iv : Value} {vs : List (Value × Value)} {cs xs : List Value} {m : Nat} (i : Nat) (k : Int) (hk : plain k = true) (h : RS W base R s tv iv vs cs xs) (hm : Sm m s) (hm' : m ≤ 900000) (hb : base ≤ W.heap.size) :
    Calls Try.prog 20 #[.pointer (some ⟨R, 0, none⟩), .int .i64 i, .int .i64 k] W (StepPost W base R (Ct.add i i nil s)) := by
  obtain ⟨p1, p2, p3, p4, p5, p6⟩ := plain_facts hk
  have HA := Lib.hid (add_any (l := i) (e := i) (s' := nil) h (TS.nil_at _ _ _ none 0 (Nat.zero_le _)) hm (by omega) hb)
  clear hk h hm
  go_enter Try.func20, Try.ntmps20
  go_wp2_with fail
  refine HA.out.mono ?_
  rintro e w' ⟨rfl, h1, h2⟩
  have HF := Lib.hid (show StepPost W base R (Ct.add i i nil s) (.returned (.tuple #[])) w' from ⟨rfl, h1, h2⟩)
  clear h1 h2
  go_wp2_with fail
  exact bodyPost_ret (v := .tuple #[]) (by simp [results, Try.results20, go_sem]) rfl HF.out

theorem run_item (a b c d : Value) (W : World) : (Instr.field 55 (.agg #[a, b, c, d]) 0).run Try.prog W = .ok (.agg #[a, b, c]) W := by
  kernel_rfl

set_option maxRecDepth 100000 in
set_option maxHeartbeats 4000000 in
theorem take_ends {W : World} {base R : Nat} {out : T} {f : Fm} {st : List Fm} {tv iv : Value} {vs : List (Value × Value)} {cs xs : List Value} {m : Nat} (i : Nat) (h : RS W base R (out, f :: st) tv iv vs cs xs) (hm : Sm m (out, f :: st)) (hm' : m ≤ 900000) (hb : base ≤ W.heap.size) :
    Calls Try.prog 20 #[.pointer (some ⟨R, 0, none⟩), .int .i64 i, .int .i64 7] W (StepPost W base R (Ct.add f.line i (f.dn.snoc f.b 0 f.cur) (out, st))) := by
  have hm2 := hm.2.1
  simp only [List.length_cons] at hm2
  obtain ⟨bv, lv, vs', cs', bxs, lxs, gt, tc, gb, bc, rfl, rfl, hf, hfs, htv, ht1, hbv, c0, c1, c2, c3, c4, c5, c6, n1, n2⟩ := h.top
  have hc1 := h.c1
  rw [htv] at hc1
  obtain ⟨n, hn⟩ : ∃ n, n = st.length := ⟨_, rfl⟩
  rw [hbv] at c2
  have HP := Lib.hid (pop_any R gt st.length tc f.line (f.dn.len + 1) bc (some ⟨gb, 0, none⟩) f.els W hc1 (h.fz 1) (by omega) ht1 c0 c1 c2 c3)
  have hfin : ∀ (o o' : Obj) (W2 : World), Same' (((W.setCell ⟨R, 1, none⟩ (.slice (some ⟨gt, 0, none⟩) st.length tc)).alloc o).alloc o') W2 → Calls Try.prog 30 #[.pointer (some ⟨R, 0, none⟩), .agg #[.int .i64 f.line, .int .i64 i, .slice (some ⟨gb, 0, none⟩) (f.dn.len + 1) bc]] W2 (StepPost W base R (Ct.add f.line i (f.dn.snoc f.b 0 f.cur) (out, st))) := by
    intro o o' W2 hS
    obtain ⟨h1, h2, h3⟩ := h.popped hf hfs htv
    have hS' : Same' (W.setCell ⟨R, 1, none⟩ (.slice (some ⟨gt, 0, none⟩) st.length tc)) W2 := ((Same'.alloc _ o).trans (Same'.alloc _ o')).trans hS
    have hb1 : base ≤ (W.setCell ⟨R, 1, none⟩ (.slice (some ⟨gt, 0, none⟩) st.length tc)).heap.size := by simpa using hb
    have hB : Below base W W2 := (h3.below hb (by rintro k rfl; exact h.hR)).trans (hS'.below hb1)
    rw [← hbv]
    refine (add_any (l := f.line) (e := i) (h1.keep hS') (TS.keep h2 fun g hg hlt => ⟨hg, hS'.block g hlt (fun x => x)⟩) (m := m) ⟨hm.1, by dsimp only; omega, fun f' hf' => hm.2.2 f' (by simp [hf'])⟩ (by omega) (Nat.le_trans hb1 hS'.size)).mono ?_
    rintro e w' ⟨rfl, h4, h5⟩
    exact ⟨rfl, h4, hB.trans h5⟩
  have HF := Lib.hid hfin
  obtain ⟨L, hL⟩ : ∃ L, L = f.line := ⟨_, rfl⟩
  rw [← hL] at HP HF
  rw [← hL]
  clear hfin hf hfs h hm hL
  go_enter Try.func20, Try.ntmps20
  go_wp2_with fail
  refine HP.out.mono ?_
  rintro e w' ⟨rfl, o, o', hw'⟩
  have hS : Same' (((W.setCell ⟨R, 1, none⟩ (.slice (some ⟨gt, 0, none⟩) st.length tc)).alloc o).alloc o') w' := by rw [hw']; exact ⟨rfl, rfl, rfl, Nat.le_refl _, fun _ _ _ => rfl⟩
  clear hw'
  have HSS := Lib.hid hS
  have hrun := run_item (.int .i64 L) (.int .i64 0) (.slice (some ⟨gb, 0, none⟩) (f.dn.len + 1) bc) (.bool f.els) w'
  clear hS c0 c1 c2 c3 c5 hc1
  go_wp2_with fail
  refine (HF.out o o' _ (HSS.out.trans (Same'.alloc _ _))).mono ?_
  rintro e w3 ⟨rfl, h4, h5⟩
  have HF5 := Lib.hid (show StepPost W base R (Ct.add L i (f.dn.snoc f.b 0 f.cur) (out, st)) (.returned (.tuple #[])) w3 from ⟨rfl, h4, h5⟩)
  clear h4 h5
  go_wp2_with fail
  exact bodyPost_ret (v := .tuple #[]) (by simp [results, Try.results20, go_sem]) rfl HF5.out

/-- take, of a line that is not wrong. -/
theorem take_any {W : World} {base R : Nat} {s : S} {m : Nat} (i : Nat) (k : Int) (hw : wrong k s.2 = false) (h : RSx W base R s) (hm : Sm m s) (hm' : m ≤ 900000) (hb : base ≤ W.heap.size) :
    Calls Try.prog 20 #[.pointer (some ⟨R, 0, none⟩), .int .i64 i, .int .i64 k] W (StepPost W base R (Ct.take i k s)) := by
  obtain ⟨tv, iv, vs, cs, xs, h⟩ := h
  obtain ⟨out, st⟩ := s
  unfold Ct.take
  by_cases h1 : begins k
  · rw [if_pos h1]
    exact take_begins i k h1 h hm hm' hb
  · rw [if_neg h1]
    by_cases h2 : parts k
    · rw [if_pos h2]
      cases st with
      | nil => simp [wrong, h2, noElse] at hw
      | cons f st => exact take_parts i k h2 h hm hm' hb
    · rw [if_neg h2]
      by_cases h3 : k == 7
      · rw [if_pos h3]
        obtain rfl : k = 7 := by simpa using h3
        cases st with
        | nil => simp [wrong, isNil] at hw
        | cons f st => exact take_ends i h hm hm' hb
      · rw [if_neg h3]
        exact take_plain i k (by simp [plain, h1, h2, h3]) h hm hm' hb
end Go.Proofs.Ytjmbchemdcmegaa
