/- What is proved: WorldAsked answers true. (and what stands with it) -/
import Derived.Test.YtdopmmnabhcigaaDoorGk

/- What is proved: WorldAsked answers true. -/
namespace Go.Proofs.YtdopmmnabhcigaaDoor
open Go.RowKit Go.Shelf

/-- 'append(s, x)' of a list x of no memory leaves an empty s as it is. -/
theorem run_append_none {P : Program} (w : World) (t ty e : TypeId) (i : TypeInfo) (ht : P.underlying t = some (.slice e)) (hi : P.info? e = some i) (g c : Nat) :
    (Builtin.append_ #[t, t] ty #[.slice (some ⟨g, 0, none⟩) 0 0, .slice none 0 c]).run P w = .ok (.slice (some ⟨g, 0, none⟩) 0 0) w := by
  simp [Builtin.append_, run_underlying ht, sizeOf, typeInfo, hi, Builtin.lenOf, Builtin.firstCells, loadCells, loadCellsFrom, storeCells]
/-- 'append([]File{}, files...)': the files in new memory. -/
theorem wpList_append_files {w : World} {ops : Array Oper} {rest : List Oper} {o : Oper} {a : Act} {Q : Exit → Act → World → Prop} (hgd : o.guard = none) (s x : Operand)
    (ho : o.op = .call { callee := .builtin .append, args := #[s, x], argTypes := #[32, 32] })
    (base g : Nat) (hs : a.eval s = .slice (some ⟨g, 0, none⟩) 0 0) (hown : w.ownsRow base 38 2 (.slice (some ⟨g, 0, none⟩) 0 0) 0 [])
    (v : Value) (fs : Wo.Fs) (hx : a.eval x = v) (hfl : Fls w v fs) (h5 : fs.length ≤ 6) (hbase : base ≤ w.heap.size)
    (h : ∀ v' w', w'.ownsRow base 38 2 v' fs.length (flCells fs) → w.grownBy w' (some g) → wpList Tryd.prog ops Q rest (a.put o.dst v') w') : wpList Tryd.prog ops Q (o :: rest) a w := by
  obtain ⟨i0, hi, hz0, hz1, hz2⟩ := info_parts infoFile
  obtain ⟨ad, cap, rfl, hc1, hc2, hc⟩ := hfl
  cases ad with
  | some ad =>
    refine wpList_append_own _ hgd s x 32 ho base 38 i0 (.agg #[.string ByteArray.empty, .string ByteArray.empty]) 2 32 Tryd.underlying32 hi hz0 hz1 hz2 rfl (by decide) _ _ _ hs hown ad fs.length cap (flCells fs) hx (flCells_length fs) ?_ ?_ (by unfold maxLen; omega) (by omega) hbase ?_
    · intro j u hj
      have hlt : j / 2 < fs.length := by
        have := (List.getElem?_eq_some_iff.1 hj).1
        rw [flCells_length] at this
        omega
      obtain ⟨g', o', e, c0, c1⟩ := hc (j / 2) _ (List.getElem?_eq_getElem hlt)
      obtain ⟨f0, f1⟩ := flCells_get fs (j / 2) _ (List.getElem?_eq_getElem hlt)
      obtain rfl := Option.some.inj e
      rw [add_none]
      rcases (show j = j / 2 * 2 ∨ j = j / 2 * 2 + 1 by omega) with e | e
      · rw [e] at hj ⊢
        rw [f0] at hj
        rw [← Option.some.inj hj]
        exact c0
      · rw [e] at hj ⊢
        rw [f1] at hj
        rw [← Option.some.inj hj]
        exact c1
    · intro u hu
      clear hc hc1 h5 h hx
      induction fs with
      | nil => cases hu
      | cons f r ih =>
        rw [flCells] at hu
        rcases List.mem_append.1 hu with h | h
        · simp at h
          rcases h with rfl | rfl <;> rfl
        · exact ih h
    · intro v' w' h1 h2 _
      rw [Nat.zero_add, List.nil_append] at h1
      exact h v' w' h1 h2
  | none =>
    obtain rfl : fs = [] := by
      cases fs with
      | nil => rfl
      | cons f r => obtain ⟨_, _, e, _⟩ := hc 0 f rfl; cases e
    refine wpList_plain hgd fun K hK => ?_
    have hr := run_append_none (P := Tryd.prog) w 32 o.type 38 i0 Tryd.underlying32 hi g cap
    unfold Oper.wp execOp
    simp only [ho, resolve, invoke, builtin, Sem.run_bind, Sem.run_pure, Result.andThen_ok, List.map_toArray, List.map_cons, List.map_nil, hs, hx, List.length_nil, hr]
    exact hK _ _ (h _ _ hown ⟨rfl, rfl, rfl, Nat.le_refl _, fun _ _ _ => rfl⟩)
theorem srt_less {x y : ByteArray} (h : Wo.lt x y) : Op.bytesLess x.toList y.toList = true := by
  have key : ∀ (x y : List UInt8), Op.bytesLess x y = decide (x < y) := by
    intro x
    induction x with
    | nil => intro y; cases y <;> simp [Op.bytesLess]
    | cons a x ih =>
      intro y
      cases y with
      | nil => simp [Op.bytesLess]
      | cons b y =>
        rw [Op.bytesLess, ih y]
        simp only [List.cons_lt_cons_iff]
        by_cases h1 : a < b <;> by_cases h2 : a = b <;> by_cases h3 : x < y <;> simp [h1, h2, h3]
  rw [key, Lib.toList_data, Lib.toList_data]
  exact decide_eq_true h

set_option maxRecDepth 100000 in
set_option maxHeartbeats 16000000 in
theorem lasked_any (v : Value) (fs : Wo.Fs) (tx : ByteArray) (hz : ∀ f ∈ fs, f.2.size ≤ maxLen ∧ f.1.size ≤ maxLen) (htx : tx.size ≤ maxLen) (w : World) (hG : Glob w) (hv : Fls w v fs) :
    Calls Tryd.prog 5 #[v, .string tx] w (TruePost w) := by
  obtain ⟨i0, hi, hz0, hz1, hz2⟩ := info_parts infoFile
  obtain ⟨ad, cap, rfl, hc1, hc2, -⟩ := id hv
  unfold maxLen at hc2 htx
  obtain ⟨N, hN⟩ : ∃ N, N = fs.length := ⟨_, rfl⟩
  have k0 := awake_any w hG
  have HG := Lib.hid hG
  have HV : Hid (Fls w (.slice ad N cap) fs) := Lib.hid (by rw [hN]; exact hv)
  have HN := Lib.hid hN
  have HZ := Lib.hid hz
  rw [← hN] at hc1 ⊢
  clear hv hN hG hz
  have hcase : Wo.short fs 600 = false ∨ (Wo.short fs 600 = true ∧ 5 < N) ∨ (Wo.short fs 600 = true ∧ N ≤ 5 ∧ 300 < tx.size) ∨ (Wo.short fs 600 = true ∧ N ≤ 5 ∧ tx.size ≤ 300) := by
    cases Wo.short fs 600 with
    | false => exact .inl rfl
    | true =>
      rcases Nat.lt_or_ge 5 N with h | h
      · exact .inr (.inl ⟨rfl, h⟩)
      · rcases Nat.lt_or_ge 300 tx.size with h2 | h2
        · exact .inr (.inr (.inl ⟨rfl, h, h2⟩))
        · exact .inr (.inr (.inr ⟨rfl, h, h2⟩))
  rcases hcase with hs | ⟨hs, h5⟩ | ⟨hs, h5, h3⟩ | ⟨hs, h5, h3⟩
  case inr.inr.inr =>
    obtain ⟨h6, hsm⟩ := short_small (by omega) hs
    rw [← HN.out] at h6
    have HSm := Lib.hid hsm
    have z5 : ¬ ((5 : Int) < N) := by omega
    have z3 : ¬ ((300 : Int) < tx.size) := by omega
    clear hsm
    go_enter Tryd.func5, Tryd.ntmps5
    go_wp2_with fail
    refine k0.mono ?_
    clear k0
    rintro e w1 ⟨rfl, hB1⟩
    have k1 := rshort_any _ fs 600 (by omega) _ (HV.out.below hB1) HZ.out
    rw [hs] at k1
    have HB1 := Lib.hid hB1
    clear hB1 hs
    go_wp2_with fail
    refine k1.mono ?_
    clear k1
    rintro e w2 ⟨rfl, rfl⟩
    go_wp2_with fail
    go_loopw [7] (fun i wr => ∃ k : Nat, i = .int .i64 k ∧ k ≤ tx.size ∧ (35 : UInt8) ∉ tx.data.toList.take k ∧ w1 = wr) (fun i _ => tx.size - (intOf i).toNat)
    case atStart => exact ⟨0, rfl, Nat.zero_le _, by simp, rfl⟩
    case round =>
      obtain ⟨k, rfl, hk, hno, rfl⟩ := hrel
      by_cases hlt : k < tx.size
      · have hx : tx.data.toList[k]? = some tx[k] := List.getElem?_eq_getElem (by rw [size_list]; exact hlt)
        have t1 : ((tx[k].toNat : Int) == 35) = decide (tx[k] = 35) := toNat_eq tx[k] 35 (by decide)
        by_cases e1 : tx[k] = 35
        · rw [decide_eq_true e1] at t1
          clear hx e1 hno
          go_wp2_with fail
          go_ret
          exact ⟨rfl, HB1.out⟩
        · rw [decide_eq_false e1] at t1
          have hno2 : (35 : UInt8) ∉ tx.data.toList.take (k + 1) := by
            rw [List.take_add_one, hx]
            intro h
            rcases List.mem_append.1 h with h | h
            · exact hno h
            · simp at h; exact e1 h.symm
          have HN2 := Lib.hid hno2
          clear hx e1 hno hno2
          go_wp2_with fail
          go_roundw
          case rel => exact ⟨k + 1, by go_num, by omega, HN2.out, trivial⟩
          case measure => simp [intOf]; omega
      · rw [List.take_of_length_le (by rw [size_list]; omega)] at hno
        obtain ⟨m1, m2, m3⟩ := Wo.more_same fs ⟨#[113, 46, 104]⟩ tx hno
        have HM := Lib.hid (And.intro m1 (And.intro m2 m3))
        have k1 := wnames_any _ fs HSm.out _ (HV.out.below HB1.out) (HG.out.later HB1.out)
        clear hno m1 m2 m3 hk
        go_wp2_with fail
        refine k1.mono ?_
        clear k1
        rintro e w3 ⟨a, rfl, ha, hB3⟩
        have hB3' := Below.then HB1.out hB3
        have k2 := wspelled_any _ fs HSm.out _ (HV.out.below hB3') (HG.out.later hB3')
        have HB3 := Lib.hid hB3'
        have Ha3 := Lib.hid ha
        clear hB3 hB3' ha
        go_wp2_with fail
        refine k2.mono ?_
        clear k2
        rintro e w4 ⟨s, rfl, hs, hB4⟩
        have hB4' := Below.then HB3.out hB4
        have k3 := wknown_any _ fs HSm.out _ (HV.out.below hB4') (HG.out.later hB4')
        have HB4 := Lib.hid hB4'
        have Ha4 := Lib.hid (Ha3.out.below hB4)
        have Hs4 := Lib.hid hs
        clear hB4 hB4' hs Ha3 HB3
        go_wp2_with fail
        refine k3.mono ?_
        clear k3
        rintro e w5 ⟨c, rfl, hc, hB5⟩
        have HB5 := Lib.hid (Below.then HB4.out hB5)
        have Ha5 := Lib.hid (Ha4.out.below hB5)
        have Hs5 := Lib.hid (Hs4.out.below hB5)
        have Hc5 := Lib.hid hc
        clear hB5 hc Ha4 Hs4 HB4
        obtain ⟨aa, ac, rfl, al, am, -⟩ := id Ha5.out
        obtain ⟨M, hM⟩ : ∃ M, M = (Wo.names fs).length := ⟨_, rfl⟩
        unfold maxLen at am
        have HA : Hid (Sts w5 (.slice aa M ac) (Wo.names fs)) := Lib.hid (by rw [hM]; exact Ha5.out)
        have HMl := Lib.hid hM
        rw [← hM] at al ⊢
        clear hM Ha5
        go_wp2_with fail
        go_loopw [12, 13, 14] (fun i p q wr => ∃ k : Nat, i = .int .i64 k ∧ k ≤ M ∧ Below w5.heap.size w5 wr) (fun i _ _ _ => M - (intOf i).toNat)
        case atStart => exact ⟨0, rfl, Nat.zero_le _, Below.refl _ _⟩
        case round =>
          obtain ⟨k, rfl, hk, hB⟩ := hrel
          by_cases hkl : k < M
          · obtain ⟨x, hx⟩ : ∃ x, (Wo.names fs)[k]? = some x := ⟨_, List.getElem?_eq_getElem (by rw [← HMl.out]; exact hkl)⟩
            obtain ⟨q1, q2⟩ := Wo.asked_spelled fs x (List.mem_of_getElem? hx)
            obtain ⟨g, o, rfl, -, -, -, hg, hcl⟩ := HA.out.cells (by rw [← HMl.out]; omega)
            have d0 := (hB.cell (p := ⟨g, o + k, none⟩) hg).trans (hcl k x hx)
            have k4 := rhas_any _ (Wo.spelled fs) x _ (Hs5.out.below hB)
            have k5 := rhas_any _ (Wo.known fs) x _ (Hc5.out.below hB)
            rw [q1] at k4
            rw [q2] at k5
            have HB := Lib.hid hB
            have z1 : (0 : Int) ≤ k := by omega
            have z2 : (k : Int) < M := by omega
            clear q1 q2 hB
            rcases Nat.eq_zero_or_pos k with h0 | h0
            · have z3 : ¬ 0 < k := by omega
              clear hx hcl h0
              go_wp2_with fail
              refine k4.mono ?_
              clear k4
              rintro e w6 ⟨rfl, rfl⟩
              go_wp2_with fail
              refine k5.mono ?_
              clear k5
              rintro e w6 ⟨rfl, rfl⟩
              go_wp2_with fail
              go_quiet (fail)
              go_wp2_with fail
              go_roundw
              case rel => exact ⟨k + 1, by go_num, by omega, below_drewN HB.out _⟩
              case measure => simp [intOf]; omega
            · obtain ⟨j, hj⟩ : ∃ j, k = j + 1 := ⟨k - 1, by omega⟩
              obtain ⟨y, hy⟩ : ∃ y, (Wo.names fs)[j]? = some y := ⟨_, List.getElem?_eq_getElem (by rw [← HMl.out]; omega)⟩
              have hless := srt_less (Wo.srt_next (Wo.names_srt fs) hy (by rw [← hj]; exact hx))
              have d1 := (HB.out.cell (p := ⟨g, o + j, none⟩) hg).trans (hcl j y hy)
              have z4 : (k : Int) - 1 = j := by omega
              have z5 : (0 : Int) ≤ j := by omega
              have z6 : (j : Int) < M := by omega
              clear hx hcl hj hy
              go_wp2_with fail
              refine k4.mono ?_
              clear k4
              rintro e w6 ⟨rfl, rfl⟩
              go_wp2_with fail
              refine k5.mono ?_
              clear k5
              rintro e w6 ⟨rfl, rfl⟩
              go_wp2_with fail
              go_quiet (fail)
              go_wp2_with fail
              go_roundw
              case rel => exact ⟨k + 1, by go_num, by omega, below_drewN HB.out _⟩
              case measure => simp [intOf]; omega
          · obtain rfl : k = M := by omega
            have HB6 := Lib.hid (Below.then HB5.out hB)
            have Ha6 := Lib.hid (HA.out.below hB)
            have Hc6 := Lib.hid (Hc5.out.below hB)
            have hV6 := HV.out.below HB6.out
            have HV6 := Lib.hid hV6
            clear hV6 hB HA Hc5 HB5
            have al : Below wr.heap.size wr (wr.alloc (.cells #[] 38)) := (Below.refl _ _).alloc (Nat.le_refl _) _
            have hrow0 : (wr.alloc (.cells #[] 38)).ownsRow wr.heap.size 38 2 (.slice (some ⟨wr.heap.size, 0, none⟩) 0 0) 0 [] := World.ownsRow_made wr #[] 0 (Nat.le_refl _) (by unfold maxLen; omega) rfl
            have hV6 := HV6.out.below al
            have HAl := Lib.hid al
            clear al HV6
            go_wp2_with (first
              | (at_builtin; refine wpList_append_files rfl _ _ rfl wr.heap.size wr.heap.size rfl hrow0 _ fs rfl hV6 (by rw [← HN.out]; omega) HAl.out.size ?_; intro v5 w5' hown5 hg5; go_frame)
              | (at_builtin; refine wpList_append_own _ rfl _ _ 32 rfl wr.heap.size 38 i0 (.agg #[.string ByteArray.empty, .string ByteArray.empty]) 2 32 Tryd.underlying32 hi hz0 hz1 hz2 rfl (by decide) _ _ _ rfl (hown5.alloc _) ⟨w5'.heap.size, 0, none⟩ 1 1 [.string ⟨#[113, 46, 104]⟩, .string tx] rfl rfl (cell_two_new _ _ _ _) (by simp [Value.oneCell']) (by rw [← HN.out]; unfold maxLen; omega) (by rw [← HN.out]; omega) (by have := HAl.out.size; have := hg5.size; simp at *; omega) ?_; intro v6 w6' hown6 hg6 hnil6; go_frame)
              | fail)
            have s5 : wr.heap.size ≤ w5'.heap.size := by have := HAl.out.size; have := hg5.size; simp at *; omega
            have b5 : Below wr.heap.size wr w5' := HAl.out.grown hg5 HAl.out.size (fun i e => by rw [← Option.some.inj e]; exact Nat.le_refl _)
            have b6 : Below wr.heap.size wr w6' := (b5.alloc s5 _).grown hg6 (by simp; omega) (fun i e => (hown5.lt i e).1)
            have hmore : Fls w6' v6 (fs ++ [(⟨#[113, 46, 104]⟩, tx)]) := Fls.of_row (base := wr.heap.size) (n := fs.length + 1) (by rw [flCells_append]; exact hown6)
            have hsm2 : Wo.Small (fs ++ [(⟨#[113, 46, 104]⟩, tx)]) := ⟨by rw [List.length_append, ← HN.out]; simp; omega, fun f hf => by
              rcases List.mem_append.1 hf with h | h
              · exact HSm.out.2 f h
              · simp at h; subst h; exact ⟨by dsimp only; omega, by dsimp only; decide⟩⟩
            have HB7 := Lib.hid (Below.then HB6.out b6)
            have Ha7 := Lib.hid (Ha6.out.below b6)
            have Hc7 := Lib.hid (Hc6.out.below b6)
            have k7 := wnames_any _ _ hsm2 _ hmore (HG.out.later HB7.out)
            rw [HM.out.1, HM.out.2.1] at k7
            have Hm7 := Lib.hid hmore
            have HS2 := Lib.hid hsm2
            clear hown6 hg6 hnil6 hown5 hg5 s5 b5 b6 hmore hsm2 HAl hV6 hrow0 Ha6 Hc6 HB6
            refine k7.mono ?_
            clear k7
            rintro e w8 ⟨b, rfl, hb, hB8⟩
            have hB8' := Below.then HB7.out hB8
            have k8 := wknown_any _ _ HS2.out _ (Hm7.out.below hB8) (HG.out.later hB8')
            rw [HM.out.2.2] at k8
            have HB8 := Lib.hid hB8'
            have Ha8 := Lib.hid (Ha7.out.below hB8)
            have Hc8 := Lib.hid (Hc7.out.below hB8)
            have Hb8 := Lib.hid hb
            clear hB8 hB8' hb Ha7 Hc7 Hm7 HB7
            go_wp2_with fail
            refine k8.mono ?_
            clear k8
            rintro e w9 ⟨c2, rfl, hc9, hB9⟩
            have k9 := same_yes _ _ _ _ (Ha8.out.below hB9) (Hb8.out.below hB9)
            have HB9 := Lib.hid (Below.then HB8.out hB9)
            have Hc9 := Lib.hid (Hc8.out.below hB9)
            have Hd9 := Lib.hid hc9
            clear hB9 hc9 Ha8 Hb8 Hc8 HB8
            go_wp2_with fail
            refine k9.mono ?_
            clear k9
            rintro e w10 ⟨rfl, hB10⟩
            have k10 := same_yes _ _ _ _ (Hc9.out.below hB10) (Hd9.out.below hB10)
            have HB10 := Lib.hid (Below.then HB9.out hB10)
            clear hB10 Hc9 Hd9 HB9
            go_wp2_with fail
            refine k10.mono ?_
            clear k10
            rintro e w11 ⟨rfl, hB11⟩
            have HB11 := Lib.hid (Below.then HB10.out hB11)
            clear hB11 HB10
            go_wp2_with fail
            go_ret
            exact ⟨rfl, HB11.out⟩
  all_goals
    go_enter Tryd.func5, Tryd.ntmps5
    go_wp2_with fail
    refine k0.mono ?_
    clear k0
    rintro e w1 ⟨rfl, hB1⟩
    have k1 := rshort_any _ fs 600 (by omega) _ (HV.out.below hB1) HZ.out
    rw [hs] at k1
    have HB1 := Lib.hid hB1
    try have z5 : (5 : Int) < N := by omega
    try have z5 : ¬ (5 : Int) < N := by omega
    try have z3 : (300 : Int) < tx.size := by omega
    clear hB1 hs
    go_wp2_with fail
    refine k1.mono ?_
    clear k1
    rintro e w2 ⟨rfl, rfl⟩
    go_wp2_with fail
    go_ret
    exact ⟨rfl, HB1.out⟩

end Go.Proofs.YtdopmmnabhcigaaDoor
