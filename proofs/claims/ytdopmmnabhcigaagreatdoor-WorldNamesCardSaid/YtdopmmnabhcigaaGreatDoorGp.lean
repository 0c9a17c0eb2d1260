/- What is proved: what the document's own Mains tells of files. (and what stands with it) -/
import Derived.Test.YtdopmmnabhcigaaGreatDoorGi
import Derived.Test.YtdopmmnabhcigaaGreatDoorGd
import Derived.Test.YtdopmmnabhcigaaGreatDoorGj
import Derived.Test.YtdopmmnabhcigaaGreatDoorGo

/- What is proved: what the document's own Mains tells of files. -/
namespace Go.Proofs.YtdopmmnabhcigaaGreatDoor
open Go.RowKit Go.Shelf

theorem isC_short {p : ByteArray} (h : p.size < 2) : Wo.isC p = false := by
  unfold Wo.isC Go.Lib.hasSuffix
  have h2 : p.data.toList.length < 2 := by rw [size_list]; exact h
  rw [← Bool.not_eq_true, List.isSuffixOf_iff_suffix]
  intro hs
  have := hs.length_le
  simp only [List.length_cons, List.length_nil] at this
  omega
theorem isC_long {p : ByteArray} {j m : Nat} (h : p.size = j + 2) (hm : m = j + 1) : Wo.isC p = (decide ((p[j]'(by omega)) = 46) && decide ((p[m]'(by omega)) = 99)) := by
  subst hm
  have hl : p.data.toList.length = j + 2 := by rw [size_list]; exact h
  have hd : p.data.toList.drop j = [p[j]'(by omega), p[j + 1]'(by omega)] := by
    rw [List.drop_eq_getElem_cons (by omega), List.drop_eq_getElem_cons (by omega), List.drop_of_length_le (by omega), byte_at p j (by omega), byte_at p (j + 1) (by omega)]
  unfold Wo.isC Go.Lib.hasSuffix
  rw [Bool.eq_iff_iff, List.isSuffixOf_iff_suffix, List.suffix_iff_eq_drop, hl, show j + 2 - [(46 : UInt8), 99].length = j by simp, hd, Bool.and_eq_true, decide_eq_true_iff, decide_eq_true_iff]
  constructor
  · intro e
    injection e with e1 e2
    injection e2 with e2 e3
    exact ⟨e1.symm, e2.symm⟩
  · rintro ⟨e1, e2⟩
    rw [e1, e2]

set_option maxRecDepth 100000 in
set_option maxHeartbeats 8000000 in
theorem rmains_any (v : Value) (fs : Wo.Fs) (hn : fs.length ≤ 1000) (hsz : ∀ f ∈ fs, f.1.size ≤ maxLen) (w : World) (hv : Fls w v fs) :
    Calls Tryz.prog 13 #[v] w fun e w' => ∃ u, e = .returned u ∧ Sts w' u (Wo.mains fs) ∧ Below w.heap.size w w' := by
  obtain ⟨i0, hi, hz0, hz1, hz2⟩ := info_parts infoStr
  obtain ⟨ad, cap, rfl, hc1, hc2, -⟩ := id hv
  unfold maxLen at hc2
  obtain ⟨N, hN⟩ : ∃ N, N = fs.length := ⟨_, rfl⟩
  rw [← hN] at hc1 hn ⊢
  have HV : Hid (Fls w (.slice ad N cap) fs) := Lib.hid (by rw [hN]; exact hv)
  have HN := Lib.hid hN
  have HSz := Lib.hid hsz
  clear hv hN hsz
  go_enter Tryz.func13, Tryz.ntmps13
  go_wp2_with fail
  go_loopw [3, 4, 5, 6, 7] (fun o i _ _ _ wr => ∃ k : Nat, i = .int .i64 k ∧ k ≤ N ∧ wr.ownsRow w.heap.size 9 1 o (Wo.mains (fs.take k)).length (strCells (Wo.mains (fs.take k))) ∧ Below w.heap.size w wr) (fun _ i _ _ _ _ => N - (intOf i).toNat)
  case atStart => exact ⟨0, rfl, Nat.zero_le _, World.ownsRow_nil _ _ _ _, Below.refl _ _⟩
  case round =>
    obtain ⟨k, rfl, hk, hrow, hB⟩ := hrel
    by_cases hlt : k < N
    · obtain ⟨f, hf⟩ : ∃ f, fs[k]? = some f := ⟨_, List.getElem?_eq_getElem (by rw [← HN.out]; exact hlt)⟩
      obtain ⟨g, o, rfl, -, -, -, hg, hcell⟩ := HV.out.cells (by rw [← HN.out]; omega)
      obtain ⟨c1, -⟩ := hcell k f hf
      have d1 := (hB.cell (p := ⟨g, o + k * 2, none⟩) hg).trans c1
      have hpz := HSz.out f (List.mem_of_getElem? hf)
      have hto : Wo.mains (fs.take (k + 1)) = Wo.mainSt (Wo.mains (fs.take k)) f := by rw [List.take_add_one, hf]; exact Wo.mains_snoc _ _
      have hml := Wo.mains_len (fs.take k)
      rw [List.length_take] at hml
      obtain ⟨p, tx⟩ := f
      dsimp only at d1 hpz
      have hto : Wo.mains (fs.take (k + 1)) = if Wo.isC p && !Wo.has (Wo.mains (fs.take k)) p then Wo.mains (fs.take k) ++ [p] else Wo.mains (fs.take k) := hto
      obtain ⟨A, hA⟩ : ∃ A, A = Wo.mains (fs.take k) := ⟨_, rfl⟩
      rw [← hA] at hto hrow hml
      obtain ⟨na, hna⟩ : ∃ na, na = A.length := ⟨_, rfl⟩
      have hst := Sts.of_row hrow
      obtain ⟨q, hq⟩ : ∃ q, q = Wo.has A p := ⟨_, rfl⟩
      have kh := rhas_any _ A p _ hst
      rw [← hq] at kh hto
      rw [← hna] at hrow hml
      have HNa := Lib.hid hna
      have z1 : (0 : Int) ≤ k := by omega
      have z2 : (k : Int) < N := by omega
      unfold maxLen at hpz
      have hcase : (p.size < 2 ∧ Wo.isC p = false) ∨ ∃ j m, p.size = j + 2 ∧ m = j + 1 := by
        by_cases h2 : p.size < 2
        · exact .inl ⟨h2, isC_short h2⟩
        · exact .inr ⟨p.size - 2, p.size - 1, by omega, by omega⟩
      rcases hcase with ⟨h2, hc⟩ | ⟨j, m, hj, hm⟩
      · have t2 : ¬ (2 : Int) ≤ p.size := by omega
        rw [hc] at hto
        have HTo : Hid (Wo.mains (fs.take (k + 1)) = A) := Lib.hid hto
        clear hf hcell c1 hA hto hc h2 hq hna hst
        go_wp2_with fail
        refine kh.mono ?_
        clear kh
        rintro e w2 ⟨rfl, rfl⟩
        go_wp2_with fail
        go_roundw
        case rel => exact ⟨k + 1, by go_num, by omega, by rw [HTo.out, ← HNa.out]; exact hrow, hB⟩
        case measure => simp [intOf]; omega
      · have t9 : j < p.size := by omega
        have t10 : m < p.size := by omega
        have hc : Wo.isC p = (decide ((p[j]'t9) = 46) && decide ((p[m]'t10) = 99)) := isC_long hj hm
        have e5 : (((p[j]'t9).toNat : Int) == 46) = decide ((p[j]'t9) = 46) := toNat_eq _ 46 (by decide)
        have e6 : (((p[m]'t10).toNat : Int) == 99) = decide ((p[m]'t10) = 99) := toNat_eq _ 99 (by decide)
        obtain ⟨b5, hb5⟩ : ∃ b5, b5 = decide ((p[j]'t9) = 46) := ⟨_, rfl⟩
        obtain ⟨b6, hb6⟩ : ∃ b6, b6 = decide ((p[m]'t10) = 99) := ⟨_, rfl⟩
        rw [← hb5] at e5 hc
        rw [← hb6] at e6 hc
        rw [hc] at hto
        have t2 : (2 : Int) ≤ p.size := by omega
        have t3 : (p.size : Int) - 2 = j := by omega
        have t4 : (p.size : Int) - 1 = m := by omega
        have t7 : (j : Int) < p.size := by omega
        have t8 : (m : Int) < p.size := by omega
        clear hf hcell c1 hA hc hb5 hb6 hq hna hst hj hm
        by_cases hall : b5 = true ∧ b6 = true ∧ q = false
        · obtain ⟨rfl, rfl, rfl⟩ := hall
          have HTo : Hid (Wo.mains (fs.take (k + 1)) = A ++ [p]) := Lib.hid hto
          clear hto
          go_wp2_with fail
          refine kh.mono ?_
          clear kh
          rintro e w2 ⟨rfl, rfl⟩
          go_wp2_with (first
            | (at_builtin; refine wpList_append_own _ rfl _ _ 25 rfl w.heap.size 9 i0 (.string ByteArray.empty) 1 16 Tryz.underlying25 hi hz0 hz1 hz2 rfl (by decide) _ _ _ rfl (hrow.alloc _) ⟨wr.heap.size, 0, none⟩ 1 1 [.string p] rfl rfl (cell_one_new _ _ _) (by simp [Value.oneCell']) (by unfold maxLen; omega) (by omega) (by have := hB.size; simp; omega) ?_; intro v5 w5 hown5 hg5 hnil; go_frame)
            | fail)
          go_roundw
          case rel =>
            refine ⟨k + 1, by go_num, by omega, ?_, (hB.alloc hB.size _).grown hg5 (by have := hB.size; simp; omega) (fun j e => (hrow.lt j e).1)⟩
            rw [HTo.out, List.length_append, ← HNa.out, strCells_append]
            exact hown5
          case measure => simp [intOf]; omega
        · have HTo : Hid (Wo.mains (fs.take (k + 1)) = A) := Lib.hid (by
            rw [hto]
            refine if_neg fun h => hall ?_
            simp only [Bool.and_eq_true, Bool.not_eq_true'] at h
            exact ⟨h.1.1, h.1.2, h.2⟩)
          have hc3 : b5 = false ∨ (b5 = true ∧ b6 = false) ∨ (b5 = true ∧ b6 = true ∧ q = true) := by
            cases b5 <;> cases b6 <;> cases q <;> simp at hall ⊢
          clear hto hall
          rcases hc3 with rfl | ⟨rfl, rfl⟩ | ⟨rfl, rfl, rfl⟩
          all_goals
            go_wp2_with fail
            refine kh.mono ?_
            clear kh
            rintro e w2 ⟨rfl, rfl⟩
            go_wp2_with fail
            go_roundw
            case rel => exact ⟨k + 1, by go_num, by omega, by rw [HTo.out, ← HNa.out]; exact hrow, hB⟩
            case measure => simp [intOf]; omega
    · obtain rfl : k = N := by omega
      have hto : fs.take k = fs := List.take_of_length_le (by rw [← HN.out]; exact Nat.le_refl _)
      rw [hto] at hrow
      have HR := Lib.hid hrow
      clear hto hrow
      go_wp2_with fail
      go_ret
      exact ⟨_, rfl, Sts.of_row HR.out, hB⟩
end Go.Proofs.YtdopmmnabhcigaaGreatDoor

/- What is proved: WorldNames answers true. -/
namespace Go.Proofs.YtdopmmnabhcigaaGreatDoor
open Go.RowKit Go.Shelf

theorem short_small {fs : Wo.Fs} {m : Nat} (hm : m ≤ 1000) (h : Wo.short fs m = true) : fs.length ≤ 6 ∧ Wo.Small fs := by
  unfold Wo.short at h
  rw [Bool.and_eq_true, List.all_eq_true] at h
  obtain ⟨h1, h2⟩ := h
  have h1 := of_decide_eq_true h1
  refine ⟨h1, by omega, fun f hf => ?_⟩
  have := h2 f hf
  rw [Bool.and_eq_true] at this
  exact ⟨Nat.le_trans (of_decide_eq_true this.1) hm, Nat.le_trans (of_decide_eq_true this.2) (by omega)⟩

set_option maxRecDepth 100000 in
set_option maxHeartbeats 16000000 in
theorem lnames_any (v : Value) (fs : Wo.Fs) (hz : ∀ f ∈ fs, f.2.size ≤ maxLen ∧ f.1.size ≤ maxLen) (w : World) (hG : Glob w) (hv : Fls w v fs) :
    Calls Tryz.prog 3 #[v] w (TruePost w) := by
  have k0 := awake_any w hG
  have HG := Lib.hid hG
  have HV := Lib.hid hv
  have HZ := Lib.hid hz
  clear hv hG hz
  cases hs : Wo.short fs 600 with
  | false =>
    go_enter Tryz.func3, Tryz.ntmps3
    go_wp2_with fail
    refine k0.mono ?_
    clear k0
    rintro e w1 ⟨rfl, hB1⟩
    have k1 := rshort_any _ fs 600 (by omega) _ (HV.out.below hB1) HZ.out
    rw [hs] at k1
    have HB1 := Lib.hid hB1
    clear hB1 hs
    go_wp2_with fail
    refine k1.mono ?_
    clear k1
    rintro e w2 ⟨rfl, rfl⟩
    go_wp2_with fail
    go_ret
    exact ⟨rfl, HB1.out⟩
  | true =>
    obtain ⟨h6, hsm⟩ := short_small (by omega) hs
    have HSm := Lib.hid hsm
    have hmz : ∀ f ∈ fs, f.1.size ≤ maxLen := fun f hf => (HZ.out f hf).2
    have HMz := Lib.hid hmz
    clear hsm hmz
    go_enter Tryz.func3, Tryz.ntmps3
    go_wp2_with fail
    refine k0.mono ?_
    clear k0
    rintro e w1 ⟨rfl, hB1⟩
    have k1 := rshort_any _ fs 600 (by omega) _ (HV.out.below hB1) HZ.out
    rw [hs] at k1
    have HB2 := Lib.hid hB1
    clear hB1 hs
    go_wp2_with fail
    refine k1.mono ?_
    clear k1
    rintro e w2 ⟨rfl, rfl⟩
    have k3 := wnames_any _ fs HSm.out _ (HV.out.below HB2.out) (HG.out.later HB2.out)
    go_wp2_with fail
    refine k3.mono ?_
    clear k3
    rintro e w3 ⟨a, rfl, ha, hB3⟩
    have HB3 := Lib.hid (Below.then HB2.out hB3)
    have Ha3 := Lib.hid ha
    clear hB3 ha HB2 
    have k4 := rnames_any _ fs HSm.out _ (HV.out.below HB3.out)
    go_wp2_with fail
    refine k4.mono ?_
    clear k4
    rintro e w4 ⟨b, rfl, hb, hB4⟩
    have HB4 := Lib.hid (Below.then HB3.out hB4)
    have Ha4 := Lib.hid (Ha3.out.below hB4)
    have Hb4 := Lib.hid hb
    clear hB4 hb HB3 Ha3
    have k5 := wknown_any _ fs HSm.out _ (HV.out.below HB4.out) (HG.out.later HB4.out)
    go_wp2_with fail
    refine k5.mono ?_
    clear k5
    rintro e w5 ⟨c, rfl, hc, hB5⟩
    have HB5 := Lib.hid (Below.then HB4.out hB5)
    have Ha5 := Lib.hid (Ha4.out.below hB5)
    have Hb5 := Lib.hid (Hb4.out.below hB5)
    have Hc5 := Lib.hid hc
    clear hB5 hc HB4 Ha4 Hb4
    have k6 := wmains_any _ fs (by omega) HMz.out _ (HV.out.below HB5.out)
    go_wp2_with fail
    refine k6.mono ?_
    clear k6
    rintro e w6 ⟨d, rfl, hd, hB6⟩
    have HB6 := Lib.hid (Below.then HB5.out hB6)
    have Ha6 := Lib.hid (Ha5.out.below hB6)
    have Hb6 := Lib.hid (Hb5.out.below hB6)
    have Hc6 := Lib.hid (Hc5.out.below hB6)
    have Hd6 := Lib.hid hd
    clear hB6 hd HB5 Ha5 Hb5 Hc5
    have k7 := wspelled_any _ fs HSm.out _ (HV.out.below HB6.out) (HG.out.later HB6.out)
    go_wp2_with fail
    refine k7.mono ?_
    clear k7
    rintro e w7 ⟨s, rfl, hs, hB7⟩
    have HB7 := Lib.hid (Below.then HB6.out hB7)
    have Ha7 := Lib.hid (Ha6.out.below hB7)
    have Hb7 := Lib.hid (Hb6.out.below hB7)
    have Hc7 := Lib.hid (Hc6.out.below hB7)
    have Hd7 := Lib.hid (Hd6.out.below hB7)
    have Hs7 := Lib.hid hs
    clear hB7 hs HB6 Ha6 Hb6 Hc6 Hd6
    have k8 := same_yes _ _ _ _ Ha7.out Hb7.out
    go_wp2_with fail
    refine k8.mono ?_
    clear k8
    rintro e w8 ⟨rfl, hB8⟩
    have HB8 := Lib.hid (Below.then HB7.out hB8)
    have Hc8 := Lib.hid (Hc7.out.below hB8)
    have Hd8 := Lib.hid (Hd7.out.below hB8)
    have Hs8 := Lib.hid (Hs7.out.below hB8)
    clear hB8 HB7 Ha7 Hb7 Hc7 Hd7 Hs7
    have k9 := rknown_any _ fs HSm.out _ (HV.out.below HB8.out)
    go_wp2_with fail
    refine k9.mono ?_
    clear k9
    rintro e w9 ⟨b, rfl, hb, hB9⟩
    have HB9 := Lib.hid (Below.then HB8.out hB9)
    have Hc9 := Lib.hid (Hc8.out.below hB9)
    have Hd9 := Lib.hid (Hd8.out.below hB9)
    have Hs9 := Lib.hid (Hs8.out.below hB9)
    have Hb9 := Lib.hid hb
    clear hB9 hb HB8 Hc8 Hd8 Hs8
    have k10 := same_yes _ _ _ _ Hc9.out Hb9.out
    go_wp2_with fail
    refine k10.mono ?_
    clear k10
    rintro e w10 ⟨rfl, hB10⟩
    have HB10 := Lib.hid (Below.then HB9.out hB10)
    have Hd10 := Lib.hid (Hd9.out.below hB10)
    have Hs10 := Lib.hid (Hs9.out.below hB10)
    clear hB10 HB9 Hc9 Hd9 Hs9 Hb9
    have k11 := rmains_any _ fs (by omega) HMz.out _ (HV.out.below HB10.out)
    go_wp2_with fail
    refine k11.mono ?_
    clear k11
    rintro e w11 ⟨b, rfl, hb, hB11⟩
    have HB11 := Lib.hid (Below.then HB10.out hB11)
    have Hd11 := Lib.hid (Hd10.out.below hB11)
    have Hs11 := Lib.hid (Hs10.out.below hB11)
    have Hb11 := Lib.hid hb
    clear hB11 hb HB10 Hd10 Hs10
    have k12 := same_yes _ _ _ _ Hd11.out Hb11.out
    go_wp2_with fail
    refine k12.mono ?_
    clear k12
    rintro e w12 ⟨rfl, hB12⟩
    have HB12 := Lib.hid (Below.then HB11.out hB12)
    have Hs12 := Lib.hid (Hs11.out.below hB12)
    clear hB12 HB11 Hd11 Hs11 Hb11
    have k13 := rspelled_any _ fs HSm.out _ (HV.out.below HB12.out)
    go_wp2_with fail
    refine k13.mono ?_
    clear k13
    rintro e w13 ⟨b, rfl, hb, hB13⟩
    have HB13 := Lib.hid (Below.then HB12.out hB13)
    have Hs13 := Lib.hid (Hs12.out.below hB13)
    have Hb13 := Lib.hid hb
    clear hB13 hb HB12 Hs12
    have k14 := same_yes _ _ _ _ Hs13.out Hb13.out
    go_wp2_with fail
    refine k14.mono ?_
    clear k14
    rintro e w14 ⟨rfl, hB14⟩
    have HB14 := Lib.hid (Below.then HB13.out hB14)
    clear hB14 HB13 Hs13 Hb13
    go_wp2_with fail
    go_ret
    exact ⟨rfl, HB14.out⟩
end Go.Proofs.YtdopmmnabhcigaaGreatDoor
