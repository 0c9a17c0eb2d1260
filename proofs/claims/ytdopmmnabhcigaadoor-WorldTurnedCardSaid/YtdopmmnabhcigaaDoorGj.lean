/- What is proved: the statements' own examples come out true. (and what stands with it) -/
import Derived.Test.YtdopmmnabhcigaaDoorGi

/- What is proved: the statements' own examples come out true. -/
namespace Go.Proofs.YtdopmmnabhcigaaDoor
open Go.RowKit Go.Shelf

namespace Wo
def tA : ByteArray := ⟨#[65]⟩
def tB : ByteArray := ⟨#[66]⟩
def tC : ByteArray := ⟨#[67]⟩
def tX : ByteArray := ⟨#[88]⟩
def pA : ByteArray := ⟨#[97, 46, 99]⟩
def pB : ByteArray := ⟨#[98, 46, 104]⟩
def pX : ByteArray := ⟨#[120, 47, 121, 46, 99]⟩
def pC : ByteArray := ⟨#[46, 99]⟩
def exT : ByteArray := ⟨#[35, 105, 102, 32, 65, 32, 38, 38, 32, 100, 101, 102, 105, 110, 101, 100, 40, 66, 41, 32, 124, 124, 32, 88, 32, 62, 32, 49, 10, 35, 101, 110, 100, 105, 102, 10, 35, 100, 101, 102, 105, 110, 101, 32, 88, 32, 50, 10, 35, 105, 102, 100, 101, 102, 32, 67, 10, 35, 101, 110, 100, 105, 102]⟩
def exF : Fs := [(pA, exT)]
def exM : Fs := [(pA, ⟨#[]⟩), (pB, ⟨#[]⟩), (pX, ⟨#[]⟩), (pC, ⟨#[]⟩)]
theorem ex1 : names exF = [tA, tB, tC] := by kernel_rfl
theorem ex2 : namesE exF = 0 := by kernel_rfl
theorem ex3 : known exF = [tX] := by kernel_rfl
theorem ex4 : defsL [tA, tB, tC] 5 = [tA, tC] := by kernel_rfl
theorem ex5 : defsE [tA, tB, tC] 5 = 0 := by kernel_rfl
theorem ex6 : setV [tA, tB, tC] [tC, tA] = (5, 0) := by kernel_rfl
theorem ex7 : setV [tA] [tB] = (0, 60) := by kernel_rfl
theorem ex8 : mains exM = [pA, pX, pC] := by kernel_rfl
theorem exSmall : Small exF := by
  refine ⟨by decide, fun f hf => ?_⟩
  simp only [exF, List.mem_cons, List.not_mem_nil, or_false] at hf
  subst hf
  exact ⟨by decide, by decide⟩
end Wo

theorem sts_new (W : World) (l : List ByteArray) (hl : l.length ≤ maxLen) : Sts (W.alloc (.cells (strCells l).toArray 9)) (.slice (some ⟨W.heap.size, 0, none⟩) l.length l.length) l := by
  refine ⟨_, _, rfl, Nat.le_refl _, hl, fun i s hs => ⟨W.heap.size, 0, rfl, ?_⟩⟩
  rw [Lib.cell_of_heap (heap_alloc_new W _), Nat.zero_add, List.getElem?_toArray]
  exact strCells_get hs
theorem fls_new (W : World) (l : Wo.Fs) (hl : l.length ≤ maxLen) : Fls (W.alloc (.cells (flCells l).toArray 38)) (.slice (some ⟨W.heap.size, 0, none⟩) l.length l.length) l := by
  refine ⟨_, _, rfl, Nat.le_refl _, hl, fun i s hs => ⟨W.heap.size, 0, rfl, ?_, ?_⟩⟩
  · rw [Lib.cell_of_heap (heap_alloc_new W _), Nat.zero_add, List.getElem?_toArray]
    exact (flCells_get l i s hs).1
  · rw [Lib.cell_of_heap (heap_alloc_new W _), Nat.zero_add, List.getElem?_toArray]
    exact (flCells_get l i s hs).2
theorem same_yes (v u : Value) (a : List ByteArray) (w : World) (hv : Sts w v a) (hu : Sts w u a) :
    Calls Tryd.prog 12 #[v, u] w fun e w' => e = .returned (.bool true) ∧ Below w.heap.size w w' :=
  (rsame_any v u a a w hv hu).mono fun _ _ h => ⟨by rw [h.1, decide_eq_true rfl], h.2⟩
end Go.Proofs.YtdopmmnabhcigaaDoor

/- What is proved: the statements' own examples, walked. -/
namespace Go.Proofs.YtdopmmnabhcigaaDoor
open Go.RowKit Go.Shelf

set_option maxRecDepth 100000 in
set_option maxHeartbeats 8000000 in
theorem awake_any (w : World) (hG : Glob w) : Calls Tryd.prog 7 #[] w (TruePost w) := by
  have HG := Lib.hid hG
  have hB1 : Below w.heap.size w (w.alloc (.cells #[.string Wo.pA, .string Wo.exT] 38)) := (Below.refl _ w).alloc (Nat.le_refl _) _
  have hf := fls_new w Wo.exF (by decide)
  have k1 := wnames_any _ Wo.exF Wo.exSmall _ hf (hG.later hB1)
  rw [Wo.ex1, Wo.ex2] at k1
  have HB1 := Lib.hid hB1
  have Hf := Lib.hid hf
  clear hG hB1 hf
  go_enter Tryd.func7, Tryd.ntmps7
  go_wp2_with fail
  refine k1.mono ?_
  rintro e w2 ⟨a, rfl, ha, hB2⟩
  have hB2' := Below.then HB1.out hB2
  have hf2 := Hf.out.below hB2
  have k2 := wknown_any _ Wo.exF Wo.exSmall _ hf2 (HG.out.later hB2')
  rw [Wo.ex3] at k2
  have HB2 := Lib.hid hB2'
  have Ha := Lib.hid ha
  clear k1 ha hB2 hB2' hf2
  go_wp2_with fail
  refine k2.mono ?_
  rintro e w3 ⟨b, rfl, hb, hB3⟩
  have hB3' := Below.then HB2.out hB3
  have ha3 := Ha.out.below hB3
  have al3 : Below w3.heap.size w3 (w3.alloc (.cells (strCells [Wo.tA, Wo.tB, Wo.tC]).toArray 9)) := (Below.refl _ _).alloc (Nat.le_refl _) _
  have k3 := wdefs_any _ [Wo.tA, Wo.tB, Wo.tC] 5 _ (sts_new w3 [Wo.tA, Wo.tB, Wo.tC] (by decide))
  rw [Wo.ex4, Wo.ex5] at k3
  have HB3 := Lib.hid (Below.then hB3' al3)
  have Ha3 := Lib.hid (ha3.below al3)
  have Hb3 := Lib.hid (hb.below al3)
  clear k2 ha3 hb hB3 hB3' al3 Ha
  go_wp2_with fail
  refine k3.mono ?_
  rintro e w4 ⟨c, rfl, hc, hB4⟩
  have hB4' := Below.then HB3.out hB4
  have ha4 := Ha3.out.below hB4
  have hb4 := Hb3.out.below hB4
  have al4 : Below w4.heap.size w4 ((w4.alloc (.cells (strCells [Wo.tA, Wo.tB, Wo.tC]).toArray 9)).alloc (.cells (strCells [Wo.tC, Wo.tA]).toArray 9)) := ((Below.refl _ _).alloc (Nat.le_refl _) _).alloc (by simp) _
  have k4 := wset_any _ _ [Wo.tA, Wo.tB, Wo.tC] [Wo.tC, Wo.tA] _ ((sts_new w4 [Wo.tA, Wo.tB, Wo.tC] (by decide)).below ((Below.refl _ _).alloc (Nat.le_refl _) (.cells (strCells [Wo.tC, Wo.tA]).toArray 9))) (sts_new (w4.alloc (.cells (strCells [Wo.tA, Wo.tB, Wo.tC]).toArray 9)) [Wo.tC, Wo.tA] (by decide))
  rw [Wo.ex6, World.size_alloc] at k4
  have HB4 := Lib.hid (Below.then hB4' al4)
  have Ha4 := Lib.hid (ha4.below al4)
  have Hb4 := Lib.hid (hb4.below al4)
  have Hc4 := Lib.hid (hc.below al4)
  clear k3 ha4 hb4 hc hB4 hB4' al4 Ha3 Hb3
  go_wp2_with fail
  refine k4.mono ?_
  clear k4
  rintro e w5 ⟨rfl, rfl⟩
  obtain ⟨W5, hW5⟩ : ∃ W5, W5 = (w4.alloc (.cells (strCells [Wo.tA, Wo.tB, Wo.tC]).toArray 9)).alloc (.cells (strCells [Wo.tC, Wo.tA]).toArray 9) := ⟨_, rfl⟩
  rw [← hW5] at HB4 Ha4 Hb4 Hc4
  rw [← hW5]
  clear hW5
  have al5 : Below W5.heap.size W5 ((W5.alloc (.cells (strCells [Wo.tA]).toArray 9)).alloc (.cells (strCells [Wo.tB]).toArray 9)) := ((Below.refl _ _).alloc (Nat.le_refl _) _).alloc (by simp) _
  have k5 := wset_any _ _ [Wo.tA] [Wo.tB] _ ((sts_new W5 [Wo.tA] (by decide)).below ((Below.refl _ _).alloc (Nat.le_refl _) (.cells (strCells [Wo.tB]).toArray 9))) (sts_new (W5.alloc (.cells (strCells [Wo.tA]).toArray 9)) [Wo.tB] (by decide))
  rw [Wo.ex7, World.size_alloc] at k5
  have HB5 := Lib.hid (Below.then HB4.out al5)
  have Ha5 := Lib.hid (Ha4.out.below al5)
  have Hb5 := Lib.hid (Hb4.out.below al5)
  have Hc5 := Lib.hid (Hc4.out.below al5)
  clear al5 Ha4 Hb4 Hc4 HB4
  go_wp2_with fail
  refine k5.mono ?_
  clear k5
  rintro e w6 ⟨rfl, rfl⟩
  obtain ⟨W6, hW6⟩ : ∃ W6, W6 = (W5.alloc (.cells (strCells [Wo.tA]).toArray 9)).alloc (.cells (strCells [Wo.tB]).toArray 9) := ⟨_, rfl⟩
  rw [← hW6] at HB5 Ha5 Hb5 Hc5 ⊢
  clear hW6
  have al6 : Below W6.heap.size W6 (W6.alloc (.cells (flCells Wo.exM).toArray 38)) := (Below.refl _ _).alloc (Nat.le_refl _) _
  have k6 := wmains_any _ Wo.exM (by decide) (fun f hf => by
    simp only [Wo.exM, List.mem_cons, List.not_mem_nil, or_false] at hf
    rcases hf with rfl | rfl | rfl | rfl <;> decide) _ (fls_new W6 Wo.exM (by decide))
  rw [Wo.ex8] at k6
  have HB6 := Lib.hid (Below.then HB5.out al6)
  have Ha6 := Lib.hid (Ha5.out.below al6)
  have Hb6 := Lib.hid (Hb5.out.below al6)
  have Hc6 := Lib.hid (Hc5.out.below al6)
  clear al6 Ha5 Hb5 Hc5 HB5
  go_wp2_with fail
  refine k6.mono ?_
  clear k6
  rintro e w7 ⟨m, rfl, hm, hB7⟩
  have al7 : Below w7.heap.size w7 (w7.alloc (.cells (strCells [Wo.tA, Wo.tB, Wo.tC]).toArray 9)) := (Below.refl _ _).alloc (Nat.le_refl _) _
  have hB7' := Below.then hB7 al7
  have k7 := same_yes _ _ _ _ (Ha6.out.below hB7') (sts_new w7 [Wo.tA, Wo.tB, Wo.tC] (by decide))
  have HB7 := Lib.hid (Below.then HB6.out hB7')
  have Hb7 := Lib.hid (Hb6.out.below hB7')
  have Hc7 := Lib.hid (Hc6.out.below hB7')
  have Hm7 := Lib.hid (hm.below al7)
  clear al7 hB7 hB7' hm Ha6 Hb6 Hc6 HB6
  go_wp2_with fail
  refine k7.mono ?_
  clear k7
  rintro e w8 ⟨rfl, hB8⟩
  have al8 : Below w8.heap.size w8 (w8.alloc (.cells (strCells [Wo.tX]).toArray 9)) := (Below.refl _ _).alloc (Nat.le_refl _) _
  have hB8' := Below.then hB8 al8
  have k8 := same_yes _ _ _ _ (Hb7.out.below hB8') (sts_new w8 [Wo.tX] (by decide))
  have HB8 := Lib.hid (Below.then HB7.out hB8')
  have Hc8 := Lib.hid (Hc7.out.below hB8')
  have Hm8 := Lib.hid (Hm7.out.below hB8')
  clear al8 hB8 hB8' Hm7 Hb7 Hc7 HB7
  go_wp2_with fail
  refine k8.mono ?_
  clear k8
  rintro e w9 ⟨rfl, hB9⟩
  have al9 : Below w9.heap.size w9 (w9.alloc (.cells (strCells [Wo.tA, Wo.tC]).toArray 9)) := (Below.refl _ _).alloc (Nat.le_refl _) _
  have hB9' := Below.then hB9 al9
  have k9 := same_yes _ _ _ _ (Hc8.out.below hB9') (sts_new w9 [Wo.tA, Wo.tC] (by decide))
  have HB9 := Lib.hid (Below.then HB8.out hB9')
  have Hm9 := Lib.hid (Hm8.out.below hB9')
  clear al9 hB9 hB9' Hm8 Hc8 HB8
  go_wp2_with fail
  refine k9.mono ?_
  clear k9
  rintro e w10 ⟨rfl, hB10⟩
  have al10 : Below w10.heap.size w10 (w10.alloc (.cells (strCells [Wo.pA, Wo.pX, Wo.pC]).toArray 9)) := (Below.refl _ _).alloc (Nat.le_refl _) _
  have hB10' := Below.then hB10 al10
  have k10 := same_yes _ _ _ _ (Hm9.out.below hB10') (sts_new w10 [Wo.pA, Wo.pX, Wo.pC] (by decide))
  have HB10 := Lib.hid (Below.then HB9.out hB10')
  clear al10 hB10 hB10' Hm9 HB9
  go_wp2_with fail
  refine k10.mono ?_
  clear k10
  rintro e w11 ⟨rfl, hB11⟩
  have HB11 := Lib.hid (Below.then HB10.out hB11)
  clear hB11 HB10
  go_wp2_with fail
  go_ret
  exact ⟨rfl, HB11.out⟩
end Go.Proofs.YtdopmmnabhcigaaDoor

/- What is proved: what the document's own Defs tells of any texts and any number. -/
namespace Go.Proofs.YtdopmmnabhcigaaDoor
open Go.RowKit Go.Shelf

set_option maxRecDepth 100000 in
set_option maxHeartbeats 4000000 in
theorem rdefs_any (v : Value) (names : List ByteArray) (set : Int) (hset : set ≤ 9223372036854775807) (w : World) (hv : Sts w v names) :
    Calls Tryd.prog 9 #[v, .int .i64 set] w fun e w' => ∃ u, e = .returned (.tuple #[u, .int .i64 (Wo.defsE names set)]) ∧ Sts w' u (Wo.defsL names set) ∧ Below w.heap.size w w' := by
  obtain ⟨i0, hi, hz0, hz1, hz2⟩ := info_parts infoStr
  obtain ⟨ad, cap, rfl, hc1, hc2, -⟩ := id hv
  obtain ⟨N, hN⟩ : ∃ N, N = names.length := ⟨_, rfl⟩
  rw [← hN] at hc1 ⊢
  have HN := Lib.hid hN
  have HV : Hid (Sts w (.slice ad N cap) names) := Lib.hid (by rw [hN]; exact hv)
  unfold maxLen at hc2
  clear hv hN
  have hbad : ¬ Wo.DefsOk names set → Wo.defsL names set = [] ∧ Wo.defsE names set = 1 := fun h => ⟨by unfold Wo.defsL; rw [if_neg h], by unfold Wo.defsE; rw [if_neg h]⟩
  by_cases h1 : 8 < N
  · obtain ⟨hl, he⟩ := hbad fun h => by have := h.1; rw [← HN.out] at this; omega
    have HL := Lib.hid hl
    have HE := Lib.hid he
    have t1 : (8 : Int) < N := by omega
    clear hl he hbad
    go_enter Tryd.func9, Tryd.ntmps9
    go_wp2_with fail
    go_ret2
    exact ⟨.slice none 0 0, by rw [HE.out]; rfl, by rw [HL.out]; exact Sts.none_at _ _ _ (Nat.zero_le _), Below.refl _ _⟩
  · have t1 : ¬ ((8 : Int) < N) := by omega
    by_cases h2 : set < 0
    · obtain ⟨hl, he⟩ := hbad fun h => by have := h.2.1; omega
      have HL := Lib.hid hl
      have HE := Lib.hid he
      clear hl he hbad
      go_enter Tryd.func9, Tryd.ntmps9
      go_wp2_with fail
      go_ret2
      exact ⟨.slice none 0 0, by rw [HE.out]; rfl, by rw [HL.out]; exact Sts.none_at _ _ _ (Nat.zero_le _), Below.refl _ _⟩
    · obtain ⟨S, rfl⟩ : ∃ S : Nat, set = S := ⟨set.toNat, by omega⟩
      have hgood : S < 2 ^ N → Wo.defsL names S = Wo.dfsK names S N ∧ Wo.defsE names S = 0 := fun h => by
        have hok : Wo.DefsOk names S := ⟨by rw [← HN.out]; omega, by omega, by rw [← HN.out]; exact_mod_cast h⟩
        refine ⟨?_, by unfold Wo.defsE; rw [if_pos hok]⟩
        unfold Wo.defsL
        rw [if_pos hok, HN.out]
        rfl
      have hbad2 : ¬ S < 2 ^ N → ¬ Wo.DefsOk names S := fun h hok => h (by have := hok.2.2; rw [← HN.out] at this; exact_mod_cast this)
      have HGood := Lib.hid hgood
      have HBad := Lib.hid (fun h => hbad (hbad2 h))
      have t2 : ¬ ((S : Int) < 0) := by omega
      clear hgood hbad hbad2 h2
      go_enter Tryd.func9, Tryd.ntmps9
      go_wp2_with fail
      go_loopw [1, 6, 7] (fun s v i wr => ∃ k : Nat, i = .int .i64 k ∧ k ≤ N ∧ s = .int .i64 ((S / 2 ^ k : Nat) : Int) ∧ wr.ownsRow w.heap.size 9 1 v (Wo.dfsK names S k).length (strCells (Wo.dfsK names S k)) ∧ Below w.heap.size w wr) (fun _ _ i _ => N - (intOf i).toNat)
      case atStart => exact ⟨0, rfl, Nat.zero_le _, by simp, World.ownsRow_nil _ _ _ _, Below.refl _ _⟩
      case round =>
        obtain ⟨k, rfl, hk, rfl, hrow, hB⟩ := hrel
        by_cases hlt : k < N
        · obtain ⟨x, hx⟩ : ∃ x, names[k]? = some x := ⟨_, List.getElem?_eq_getElem (by rw [← HN.out]; exact hlt)⟩
          obtain ⟨g, o, rfl, -, -, -, hgl, hcell⟩ := HV.out.cells (by rw [← HN.out]; omega)
          have c0 := (hB.cell (p := ⟨g, o + k, none⟩) hgl).trans (hcell k x hx)
          have hto := Wo.dfsK_succ names S k x hx
          have hol := Wo.dfsK_len names S k
          obtain ⟨q, hq⟩ : ∃ q, q = S / 2 ^ k := ⟨_, rfl⟩
          have hq2 : S / 2 ^ (k + 1) = q / 2 := by rw [Nat.pow_succ, ← Nat.div_div_eq_div_mul, hq]
          have hqS : q ≤ S := by rw [hq]; exact Nat.div_le_self _ _
          have hbit : S.testBit k = decide (q % 2 = 1) := by rw [Nat.testBit_eq_decide_div_mod_eq, hq]
          rw [← hq]
          have HTo := Lib.hid hto
          have Hol := Lib.hid hol
          have HQ2 := Lib.hid hq2
          have z0 : (0 : Int) ≤ k := by omega
          have z1 : (k : Int) < N := by omega
          obtain ⟨l, hll⟩ : ∃ l, l = Wo.dfsK names S k := ⟨_, rfl⟩
          rw [← hll] at hrow hol
          obtain ⟨m, hm⟩ : ∃ m, m = l.length := ⟨_, rfl⟩
          rw [← hm] at hrow hol
          have Hll := Lib.hid hll
          have Hm := Lib.hid hm
          have Hbit := Lib.hid hbit
          clear hx hcell hto hll hm hq hq2 hbit
          by_cases hb : q % 2 = 1
          · have r1 : (q : Int) % 2 = 1 := by omega
            have hb' : Hid (S.testBit k = true) := Lib.hid (by rw [Hbit.out]; exact decide_eq_true hb)
            clear hb
            go_wp2_with (first
              | (at_builtin; refine wpList_append_own _ rfl _ _ 22 rfl w.heap.size 9 i0 (.string ByteArray.empty) 1 16 Tryd.underlying22 hi hz0 hz1 hz2 rfl (by decide) _ _ _ rfl (hrow.alloc _) ⟨wr.heap.size, 0, none⟩ 1 1 [.string x] rfl rfl (cell_one_new _ _ _) (by simp [Value.oneCell']) (by unfold maxLen; omega) (by omega) (by have := hB.size; simp; omega) ?_; intro v' w5 hown5 hg5 hnil5; go_frame)
              | fail)
            go_roundw
            case rel =>
              refine ⟨k + 1, by go_num, by omega, by rw [HQ2.out]; rfl, ?_, (hB.alloc hB.size _).grown hg5 (by have := hB.size; simp; omega) (fun j e => (hrow.lt j e).1)⟩
              rw [HTo.out, hb'.out, if_pos rfl, ← Hll.out, List.length_append, ← Hm.out, strCells_append]
              exact hown5
            case measure => simp [intOf]; omega
          · have r1 : (q : Int) % 2 = 0 := by omega
            have hb' : Hid (S.testBit k = false) := Lib.hid (by rw [Hbit.out]; exact decide_eq_false hb)
            clear hb
            go_wp2_with fail
            go_roundw
            case rel =>
              refine ⟨k + 1, by go_num, by omega, by rw [HQ2.out]; rfl, ?_, hB⟩
              rw [HTo.out, hb'.out, if_neg (by simp), List.append_nil, ← Hll.out, ← Hm.out]
              exact hrow
            case measure => simp [intOf]; omega
        · obtain rfl : k = N := by omega
          have HR := Lib.hid hrow
          have HB := Lib.hid hB
          obtain ⟨q, hq⟩ : ∃ q, q = S / 2 ^ k := ⟨_, rfl⟩
          have hqS : q ≤ S := by rw [hq]; exact Nat.div_le_self _ _
          by_cases h0 : q = 0
          · obtain ⟨hl, he⟩ := HGood.out (by
              rw [hq] at h0
              exact (Nat.div_eq_zero_iff.1 h0).resolve_left (Nat.pos_iff_ne_zero.1 (Nat.pow_pos (by omega))))
            have HL := Lib.hid hl
            have HE := Lib.hid he
            rw [← hq, h0]
            clear hrow hB hl he h0 hq hqS
            go_wp2_with fail
            go_ret2
            exact ⟨_, by rw [HE.out]; rfl, by rw [HL.out]; exact Sts.of_row HR.out, HB.out⟩
          · obtain ⟨hl, he⟩ := HBad.out fun h => h0 (by rw [hq]; exact Nat.div_eq_of_lt h)
            have HL := Lib.hid hl
            have HE := Lib.hid he
            have t4 : (0 : Int) < q := by omega
            rw [← hq]
            clear hrow hB hl he h0 hq
            go_wp2_with fail
            go_ret2
            exact ⟨.slice none 0 0, by rw [HE.out]; rfl, by rw [HL.out]; exact Sts.none_at _ _ _ (Nat.zero_le _), HB.out⟩
end Go.Proofs.YtdopmmnabhcigaaDoor

/- What is proved: what the document's own Set tells of any texts. -/
namespace Go.Proofs.YtdopmmnabhcigaaDoor
open Go.RowKit Go.Shelf

namespace Wo
/-- Is the text at a place the first such, and one of those? -/
def firstIn (names ds : List ByteArray) (k : Nat) : Bool := match names[k]? with
  | some x => has ds x && !has (names.take k) x
  | none => false
def sumK (names ds : List ByteArray) : Nat → Nat
  | 0 => 0
  | k + 1 => sumK names ds k + if firstIn names ds k then 2 ^ k else 0
theorem sumK_lt (names ds : List ByteArray) : ∀ k, sumK names ds k < 2 ^ k
  | 0 => by simp [sumK]
  | k + 1 => by
    have := sumK_lt names ds k
    rw [sumK, Nat.pow_succ]
    split <;> omega
theorem sumK_bit (names ds : List ByteArray) (i : Nat) : ∀ k, (sumK names ds k).testBit i = (decide (i < k) && firstIn names ds i)
  | 0 => by simp [sumK]
  | k + 1 => by
    have hl := sumK_lt names ds k
    have ih := sumK_bit names ds i k
    rw [sumK]
    cases hf : firstIn names ds k with
    | true =>
      rw [if_pos rfl]
      have he : sumK names ds k + 2 ^ k = 2 ^ k ||| sumK names ds k := by
        have := Nat.two_pow_add_eq_or_of_lt hl 1
        rw [Nat.mul_one] at this
        omega
      rw [he, Nat.testBit_or, ih, Nat.testBit_two_pow]
      by_cases e : k = i
      · subst e; simp [hf]
      · have : decide (i < k + 1) = decide (i < k) := by congr 1; exact propext ⟨fun h => by omega, fun h => by omega⟩
        rw [this]; simp [e]
    | false =>
      rw [if_neg (by simp), Nat.add_zero, ih]
      by_cases e : k = i
      · subst e; simp [hf]
      · have : decide (i < k + 1) = decide (i < k) := by congr 1; exact propext ⟨fun h => by omega, fun h => by omega⟩
        rw [this]
theorem bitsOf_bit (names ds : List ByteArray) (i : Nat) : (bitsOf names ds).testBit i = ds.any fun d => decide (idx names d = i) := by
  induction ds using snoc_ind with
  | nil => simp [bitsOf]
  | snoc l a ih => rw [bitsOf_snoc, Nat.testBit_or, ih, Nat.testBit_two_pow]; simp
theorem idx_get {names : List ByteArray} {x : ByteArray} (h : x ∈ names) : names[idx names x]? = some x := by
  have hlt := idx_lt h
  rw [List.getElem?_eq_getElem hlt]
  exact congrArg some (of_decide_eq_true (List.findIdx_getElem (xs := names) (w := hlt)))
theorem idx_first {names : List ByteArray} {x : ByteArray} : x ∉ names.take (idx names x) := by
  intro h
  obtain ⟨j, hj, e⟩ := List.mem_take_iff_getElem.1 h
  have h1 : j < idx names x := by omega
  have h2 := List.not_of_lt_findIdx (xs := names) h1
  exact absurd e (of_decide_eq_false h2)
theorem idx_of {names : List ByteArray} {x : ByteArray} {k : Nat} (hk : names[k]? = some x) (hn : x ∉ names.take k) : idx names x = k := by
  have hm := List.mem_of_getElem? hk
  have h1 := idx_get hm
  rcases Nat.lt_trichotomy (idx names x) k with h | h | h
  · refine absurd ?_ hn
    rw [List.mem_take_iff_getElem]
    obtain ⟨hl, e⟩ := List.getElem?_eq_some_iff.1 h1
    exact ⟨idx names x, by omega, e⟩
  · exact h
  · refine absurd ?_ (idx_first (names := names) (x := x))
    rw [List.mem_take_iff_getElem]
    obtain ⟨hl, e⟩ := List.getElem?_eq_some_iff.1 hk
    exact ⟨k, by omega, e⟩
theorem sum_bits (names ds : List ByteArray) (hok : SetOk names ds) : sumK names ds names.length = bitsOf names ds := by
  refine Nat.eq_of_testBit_eq fun i => ?_
  rw [sumK_bit, bitsOf_bit, Bool.eq_iff_iff]
  simp only [Bool.and_eq_true, decide_eq_true_eq, List.any_eq_true]
  constructor
  · rintro ⟨hi, hf⟩
    unfold firstIn at hf
    rw [List.getElem?_eq_getElem hi] at hf
    simp only [Bool.and_eq_true, Bool.not_eq_true', has_iff, has_not] at hf
    exact ⟨names[i], hf.1, idx_of (List.getElem?_eq_getElem hi) hf.2⟩
  · rintro ⟨d, hd, rfl⟩
    have hm := hok d hd
    refine ⟨idx_lt hm, ?_⟩
    unfold firstIn
    rw [idx_get hm]
    simp only [Bool.and_eq_true, Bool.not_eq_true', has_iff, has_not]
    exact ⟨hd, idx_first⟩
end Wo
theorem Sts.take {W : World} {g o n cap : Nat} {a : List ByteArray} (h : Sts W (.slice (some ⟨g, o, none⟩) n cap) a) (k : Nat) (hk : k ≤ a.length) : Sts W (.slice (some ⟨g, o, none⟩) k cap) (a.take k) := by
  obtain ⟨ad', cap', e, h1, h2, h3⟩ := h
  injection e with e1 e2 e3
  subst e1 e2 e3
  refine ⟨_, _, by rw [List.length_take, Nat.min_eq_left hk], by rw [List.length_take]; omega, h2, fun i s hs => ?_⟩
  rw [List.getElem?_take] at hs
  split at hs
  · exact h3 i s hs
  · cases hs

set_option maxRecDepth 100000 in
set_option maxHeartbeats 4000000 in
theorem rset_any (v u : Value) (names ds : List ByteArray) (w : World) (hv : Sts w v names) (hu : Sts w u ds) :
    Calls Tryd.prog 11 #[v, u] w fun e w' => e = .returned (.tuple #[.int .i64 (Wo.setV names ds).1, .int .i64 (Wo.setV names ds).2]) ∧ Below w.heap.size w w' := by
  have kI := fun x => rhas_any v names x w hv
  obtain ⟨ad, cap, rfl, hc1, hc2, -⟩ := id hv
  obtain ⟨bd, cbp, rfl, hd1, hd2, -⟩ := id hu
  unfold maxLen at hc2 hd2
  obtain ⟨N, hN⟩ : ∃ N, N = names.length := ⟨_, rfl⟩
  obtain ⟨M, hM⟩ : ∃ M, M = ds.length := ⟨_, rfl⟩
  obtain ⟨R, hR⟩ : ∃ R, R = Wo.setV names ds := ⟨_, rfl⟩
  rw [← hN] at kI hc1
  rw [← hM] at hd1
  rw [← hR, ← hN, ← hM]
  have HR := Lib.hid hR
  have HN := Lib.hid hN
  have HM := Lib.hid hM
  have HV : Hid (Sts w (.slice ad N cap) names) := Lib.hid (by rw [hN]; exact hv)
  have HU : Hid (Sts w (.slice bd M cbp) ds) := Lib.hid (by rw [hM]; exact hu)
  have HKI := Lib.hid kI
  clear hv hu hN hM hR kI
  by_cases h8 : 8 < N
  · have t1 : (8 : Int) < N := by omega
    have HE : Hid (R = (0, 1)) := Lib.hid (by rw [HR.out]; unfold Wo.setV; rw [if_pos (by rw [← HN.out]; exact h8)])
    go_enter Tryd.func11, Tryd.ntmps11
    go_wp2_with fail
    go_ret2
    exact ⟨by rw [HE.out]; rfl, Below.refl _ _⟩
  · have t1 : ¬ ((8 : Int) < N) := by omega
    have HE : Hid (R = if ds.all (Wo.has names) then ((Wo.bitsOf names ds : Int), 0) else (0, 60)) := Lib.hid (by rw [HR.out]; unfold Wo.setV; rw [if_neg (by rw [← HN.out]; exact h8)])
    go_enter Tryd.func11, Tryd.ntmps11
    go_wp2_with fail
    go_loop [6] (fun i => ∃ k : Nat, i = .int .i64 k ∧ k ≤ M ∧ Wo.SetOk names (ds.take k)) (fun i => M - (intOf i).toNat)
    case atStart => exact ⟨0, rfl, Nat.zero_le _, fun d hd => by simp at hd⟩
    case round =>
      obtain ⟨k, rfl, hk, hok⟩ := hrel
      by_cases hlt : k < M
      · obtain ⟨d, hd⟩ : ∃ d, ds[k]? = some d := ⟨_, List.getElem?_eq_getElem (by rw [← HM.out]; exact hlt)⟩
        obtain ⟨g, o, rfl, -, -, -, -, hcell⟩ := HU.out.cells (by rw [← HM.out]; omega)
        have c0 := hcell k d hd
        have key := HKI.out d
        have htk : ds.take (k + 1) = ds.take k ++ [d] := by rw [List.take_add_one, hd]; rfl
        have HOk := Lib.hid hok
        have HTk := Lib.hid htk
        have z0 : (0 : Int) ≤ k := by omega
        have z1 : (k : Int) < M := by omega
        cases hh : Wo.has names d with
        | true =>
          rw [hh] at key
          have HMm := Lib.hid ((Wo.has_iff _ _).1 hh)
          clear hd hcell htk hok hh
          go_wp2_with (first | (go_at_call 17; refine key.mono ?_; rintro e w' ⟨rfl, rfl⟩) | fail)
          go_round
          case rel =>
            refine ⟨k + 1, by go_num, by omega, ?_⟩
            rw [HTk.out]
            intro y hy
            rcases List.mem_append.1 hy with hy | hy
            · exact HOk.out y hy
            · simp at hy; subst hy; exact HMm.out
          case measure => simp [intOf]; omega
        | false =>
          rw [hh] at key
          have hne : R = (0, 60) := by
            rw [HE.out, if_neg]
            intro h
            rw [List.all_eq_true] at h
            rw [h d (List.mem_of_getElem? hd)] at hh
            cases hh
          have HNe := Lib.hid hne
          clear hd hcell htk hok hh hne
          go_wp2_with (first | (go_at_call 17; refine key.mono ?_; rintro e w' ⟨rfl, rfl⟩) | fail)
          go_ret2
          exact ⟨by rw [HNe.out]; rfl, Below.refl _ _⟩
      · obtain rfl : k = M := by omega
        have hft : ds.take k = ds := List.take_of_length_le (by rw [← HM.out]; exact Nat.le_refl _)
        rw [hft] at hok
        have hal : ds.all (Wo.has names) = true := List.all_eq_true.2 fun d hd => (Wo.has_iff _ _).2 (hok d hd)
        have hne : R = ((Wo.bitsOf names ds : Int), 0) := by rw [HE.out, if_pos hal]
        rw [← Wo.sum_bits names ds hok, ← HN.out] at hne
        have HNe := Lib.hid hne
        clear hft hok hal hne
        go_wp2_with fail
        go_loopw [8, 9] (fun s i wr => ∃ j : Nat, i = .int .i64 j ∧ j ≤ N ∧ s = .int .i64 ((Wo.sumK names ds j : Nat) : Int) ∧ Below w.heap.size w wr) (fun _ i _ => N - (intOf i).toNat)
        case atStart => exact ⟨0, rfl, Nat.zero_le _, rfl, Below.refl _ _⟩
        case round =>
          obtain ⟨j, rfl, hj, rfl, hB⟩ := hrel
          by_cases hltj : j < N
          · obtain ⟨x, hx⟩ : ∃ x, names[j]? = some x := ⟨_, List.getElem?_eq_getElem (by rw [← HN.out]; exact hltj)⟩
            obtain ⟨g, o, rfl, -, -, -, hgl, hcell⟩ := HV.out.cells (by rw [← HN.out]; omega)
            have c0 := (hB.cell (p := ⟨g, o + j, none⟩) hgl).trans (hcell j x hx)
            have hq := Wo.sumK_lt names ds j
            have hf : Wo.firstIn names ds j = (Wo.has ds x && !Wo.has (names.take j) x) := by unfold Wo.firstIn; rw [hx]
            have hs1 : Wo.sumK names ds (j + 1) = Wo.sumK names ds j + if Wo.firstIn names ds j then 2 ^ j else 0 := rfl
            have hp256 : (2 : Nat) ^ j < 2 ^ 8 := Nat.pow_lt_pow_right (by omega) (by omega)
            have hw := pow_wrap (N := j) (by omega)
            have hp3 : ((2 : Int) ^ j) = ((2 ^ j : Nat) : Int) := by rw [Int.natCast_pow]; rfl
            obtain ⟨q, hqd⟩ : ∃ q, q = Wo.sumK names ds j := ⟨_, rfl⟩
            obtain ⟨p, hpd⟩ : ∃ p, p = 2 ^ j := ⟨_, rfl⟩
            rw [← hpd] at hq hp256 hp3 hs1
            rw [← hqd] at hq hs1 ⊢
            rw [hp3] at hw
            have hw2 : wrap64 ((2 : Int) ^ j) = p := by rw [hp3]; exact hw
            have k1 := rhas_any _ ds x wr (HU.out.below (hB.mono (Nat.le_refl _)))
            have hvr := (HV.out.below hB).take j (by rw [← HN.out]; omega)
            have KH := Lib.hid (fun (n : Nat) => rhas_any _ (names.take j) x (wr.drewN n) (hvr.keep fun _ _ h => h))
            have HS1 := Lib.hid hs1
            have HF := Lib.hid hf
            have z0 : (0 : Int) ≤ j := by omega
            have z1 : (j : Int) < N := by omega
            have z2 : (j : Int) ≤ cap := by omega
            clear hx hcell hqd hpd hs1 hf hp3 hw hvr
            cases ha : Wo.has ds x with
            | false =>
              rw [ha] at k1 HF
              generalize Wo.has (names.take j) x = b at KH HF
              have hf0 : Wo.firstIn names ds j = false := by rw [HF.out]; rfl
              have HF0 := Lib.hid hf0
              clear hf0 ha
              go_wp2_with (first | (go_at_call 17; refine k1.mono ?_; rintro e w' ⟨rfl, rfl⟩) | fail)
              go_quiet ((go_at_call 17; exact (KH.out _).mono fun _ _ hh => ⟨hh.1, _, hh.2.symm⟩))
              go_wp2_with fail
              go_roundw
              case rel => exact ⟨j + 1, by go_num, by omega, by rw [HS1.out, HF0.out, if_neg (by simp), Nat.add_zero], below_drewN hB _⟩
              case measure => simp [intOf]; omega
            | true =>
              rw [ha] at k1 HF
              cases hb : Wo.has (names.take j) x with
              | true =>
                rw [hb] at KH HF
                have hf0 : Wo.firstIn names ds j = false := by rw [HF.out]; rfl
                have HF0 := Lib.hid hf0
                clear hf0 ha hb
                go_wp2_with (first | (go_at_call 17; refine k1.mono ?_; rintro e w' ⟨rfl, rfl⟩) | fail)
                go_quiet ((go_at_call 17; exact (KH.out _).mono fun _ _ hh => ⟨hh.1, _, hh.2.symm⟩))
                go_wp2_with fail
                go_roundw
                case rel => exact ⟨j + 1, by go_num, by omega, by rw [HS1.out, HF0.out, if_neg (by simp), Nat.add_zero], below_drewN hB _⟩
                case measure => simp [intOf]; omega
              | false =>
                rw [hb] at KH HF
                have hf0 : Wo.firstIn names ds j = true := by rw [HF.out]; rfl
                have HF0 := Lib.hid hf0
                have hqp : wrap64 ((q : Int) + p) = (q : Int) + p := IntWalk.wrap64_in _ (by omega)
                clear hf0 ha hb
                go_wp2_with (first | (go_at_call 17; refine k1.mono ?_; rintro e w' ⟨rfl, rfl⟩) | fail)
                go_quiet ((go_at_call 17; exact (KH.out _).mono fun _ _ hh => ⟨hh.1, _, hh.2.symm⟩))
                go_wp2_with fail
                go_roundw
                case rel => exact ⟨j + 1, by go_num, by omega, by rw [HS1.out, HF0.out, if_pos rfl, hqp]; rfl, below_drewN hB _⟩
                case measure => simp [intOf]; omega
          · obtain rfl : j = N := by omega
            obtain ⟨q, hqd⟩ : ∃ q, q = Wo.sumK names ds j := ⟨_, rfl⟩
            rw [← hqd]
            have HQ := Lib.hid hqd
            clear hqd
            go_wp2_with fail
            go_ret2
            exact ⟨by rw [HNe.out, ← HQ.out]; rfl, hB⟩
end Go.Proofs.YtdopmmnabhcigaaDoor

/- What is proved: WorldSets answers true. -/
namespace Go.Proofs.YtdopmmnabhcigaaDoor
open Go.RowKit Go.Shelf

set_option maxRecDepth 100000 in
set_option maxHeartbeats 8000000 in
theorem lsets_any (v : Value) (names : List ByteArray) (set : Int) (hset : set ≤ 9223372036854775807) (u : Value) (ds : List ByteArray) (w : World) (hG : Glob w) (hv : Sts w v names) (hu : Sts w u ds) :
    Calls Tryd.prog 3 #[v, .int .i64 set, u] w (TruePost w) := by
  obtain ⟨ad, cap, rfl, hc1, hc2, -⟩ := id hv
  obtain ⟨bd, cbp, rfl, hd1, hd2, -⟩ := id hu
  unfold maxLen at hc2 hd2
  obtain ⟨N, hN⟩ : ∃ N, N = names.length := ⟨_, rfl⟩
  obtain ⟨M, hM⟩ : ∃ M, M = ds.length := ⟨_, rfl⟩
  have k0 := awake_any w hG
  have HV : Hid (Sts w (.slice ad N cap) names) := Lib.hid (by rw [hN]; exact hv)
  have HU : Hid (Sts w (.slice bd M cbp) ds) := Lib.hid (by rw [hM]; exact hu)
  rw [← hN] at hc1
  rw [← hM] at hd1
  rw [← hN, ← hM]
  clear hv hu hN hM hG
  by_cases hbig : 100 < N ∨ 100 < M
  · rcases Nat.lt_or_ge 100 N with h1 | h1
    · have t1 : (100 : Int) < N := by omega
      go_enter Tryd.func3, Tryd.ntmps3
      go_wp2_with fail
      refine k0.mono ?_
      rintro e w1 ⟨rfl, hB1⟩
      go_wp2_with fail
      go_ret
      exact ⟨rfl, hB1⟩
    · have t1 : ¬ ((100 : Int) < N) := by omega
      have t2 : (100 : Int) < M := by omega
      go_enter Tryd.func3, Tryd.ntmps3
      go_wp2_with fail
      refine k0.mono ?_
      rintro e w1 ⟨rfl, hB1⟩
      go_wp2_with fail
      go_ret
      exact ⟨rfl, hB1⟩
  · have t1 : ¬ ((100 : Int) < N) := by omega
    have t2 : ¬ ((100 : Int) < M) := by omega
    clear hbig
    go_enter Tryd.func3, Tryd.ntmps3
    go_wp2_with fail
    refine k0.mono ?_
    clear k0
    rintro e w1 ⟨rfl, hB1⟩
    have k1 := wdefs_any _ names set _ (HV.out.below hB1)
    have HB1 := Lib.hid hB1
    clear hB1
    go_wp2_with fail
    refine k1.mono ?_
    clear k1
    rintro e w2 ⟨a, rfl, ha, hB2⟩
    have hB2' := Below.then HB1.out hB2
    have k2 := rdefs_any _ names set hset _ (HV.out.below hB2')
    have HB2 := Lib.hid hB2'
    have Ha := Lib.hid ha
    clear ha hB2 hB2'
    go_wp2_with fail
    refine k2.mono ?_
    clear k2
    rintro e w3 ⟨b, rfl, hb, hB3⟩
    have hB3' := Below.then HB2.out hB3
    have k3 := wset_any _ _ names ds _ (HV.out.below hB3') (HU.out.below hB3')
    have HB3 := Lib.hid hB3'
    have Ha3 := Lib.hid (Ha.out.below hB3)
    have Hb := Lib.hid hb
    clear hb hB3 hB3'
    go_wp2_with fail
    refine k3.mono ?_
    clear k3
    rintro e w4 ⟨rfl, rfl⟩
    have k4 := rset_any _ _ names ds _ (HV.out.below HB3.out) (HU.out.below HB3.out)
    go_wp2_with fail
    refine k4.mono ?_
    clear k4
    rintro e w5 ⟨rfl, hB5⟩
    have hB5' := Below.then HB3.out hB5
    have k5 := same_yes _ _ _ _ (Ha3.out.below hB5) (Hb.out.below hB5)
    have HB5 := Lib.hid hB5'
    clear hB5 hB5'
    go_wp2_with fail
    refine k5.mono ?_
    clear k5
    rintro e w6 ⟨rfl, hB6⟩
    have HB6 := Lib.hid (Below.then HB5.out hB6)
    clear hB6
    go_wp2_with fail
    go_ret
    exact ⟨rfl, HB6.out⟩
end Go.Proofs.YtdopmmnabhcigaaDoor
