/- What is proved: the law BddApart answers true, whatever the names and the two lists of ops. -/
import Derived.Test.YthhcahojbgcihaaTe0
import Derived.Test.YthhcahojbgcihaaPKa
import Derived.Test.YthhcahojbgcihaaPKb
import Derived.Test.YthhcahojbgcihaaPKc
import Derived.Test.YthhcahojbgcihaaPKd
namespace Go.Proofs.Ythhcahojbgcihaa
open Go.RowKit Bd

section
variable {w : World} {B q p m vars : Nat} {sv lv tv : Value} {ds : List Dec} {n : Nat} {X : Nat → Nat} {T : Nat → Value} {G : Nat → (Nat → Bool) → Bool}
theorem playK_any (h : Wd w B q p m sv lv tv vars ds n X T G) (D A Bb C N : Int) (To : Bool) (hA : inI64 A) (hB : inI64 Bb) (hC : inI64 C) (hfew : ds.length + 256 ≤ 100000) :
    Calls Try.prog 28 #[.pointer (some ⟨q, 0, none⟩), .agg #[.int .i64 D, .int .i64 A, .int .i64 Bb, .int .i64 C, .int .i64 N, .bool To]] w (PlayedK w B q p m lv tv vars ds n X T G) := by
  by_cases hD : 1 ≤ D ∧ D ≤ 7
  · by_cases h1 : D = 1
    · subst h1
      by_cases hN : 0 ≤ N ∧ N < vars
      · obtain ⟨y, rfl⟩ := Int.eq_ofNat_of_zero_le hN.1
        exact playK_var h A Bb C To hA hB hC y (by omega) hfew
      · exact playK_var_no h A Bb C N To hA hB hC hN
    by_cases h2 : D = 2
    · subst h2; exact playK_not h A Bb C N To hA hB hC hfew
    by_cases h3 : D = 3
    · subst h3; exact playK_and h A Bb C N To hA hB hC hfew
    by_cases h4 : D = 4
    · subst h4; exact playK_or h A Bb C N To hA hB hC hfew
    by_cases h5 : D = 5
    · subst h5; exact playK_xor h A Bb C N To hA hB hC hfew
    by_cases h6 : D = 6
    · subst h6; exact playK_ite h A Bb C N To hA hB hC hfew
    · obtain rfl : D = 7 := by omega
      by_cases hN : 0 ≤ N ∧ N < vars
      · obtain ⟨y, rfl⟩ := Int.eq_ofNat_of_zero_le hN.1
        exact playK_restrict h A Bb C To hA hB hC y (by omega) hfew
      · exact playK_restrict_no h A Bb C N To hA hB hC hN
  · exact playK_none h D A Bb C N To hA hB hC hD
end

/-- While more ops are played: the world, whose first n0 conditions stay what they were. -/
def MoreAt (w1 wr : World) (q p m vars n0 : Nat) (X0 : Nat → Nat) (wv : Value) (i : Nat) : Prop := ∃ sv lv tv ds n X T G, Wd wr w1.heap.size q p m sv lv tv vars ds n X T G ∧ n0 ≤ n ∧ n ≤ 32 + i ∧ ds.length ≤ 255 * (30 + i) ∧ (∀ j, j < n0 → X j = X0 j) ∧ wr.ownsRow w1.heap.size 35 1 wv n0 (vrow (nodeV X0) n0) ∧ wv.ownBlock ≠ lv.ownBlock ∧ Below w1.heap.size w1 wr

section
variable {w w1 : World} {B q : Nat} {lv wv : Value}
theorem own_beside {size k : Nat} {xs : List Value} {o : Obj} {x : Value} {cs : Array Value} {i : Nat} (h : w.ownsRow B 35 size wv k xs) (hne : wv.ownBlock ≠ lv.ownBlock) (hg : (w.alloc o).grownBy w1 lv.ownBlock) (hq : w.heap[q]? = some (.cells cs 31 (0, 0))) : (w1.setCell ⟨q, i, none⟩ x).ownsRow B 35 size wv k xs := by
  refine own_kept h fun g hgl hv => ?_
  have hgq : g ≠ q := by
    intro e
    rcases h.2 with ⟨rfl, _⟩ | ⟨g', cap, cur, rfl, _, hh, _⟩
    · cases hv
    · have : g' = g := by simpa [Value.ownBlock] using hv
      rw [this, e, hq] at hh
      injection hh with hh
      injection hh with _ h1
      exact absurd h1 (by decide)
  rw [Below.heap_setCell _ _ _ _ hgq]
  exact (hg.block g (by simp; omega) (by rw [← hv]; exact hne)).trans (Below.heap_alloc w o g hgl)

theorem beside_new {size k n cap g : Nat} {xs : List Value} (h : w.ownsRow B 35 size wv k xs) (hne : wv.ownBlock ≠ lv.ownBlock) (hat : lv.ownBlock = some g ∨ g = w.heap.size + 1) : wv.ownBlock ≠ (Value.slice (some ⟨g, 0, none⟩) n cap).ownBlock := by
  rcases hat with e | e
  · rw [e] at hne; exact hne
  · intro c
    have := (h.lt g c).2
    omega
end

set_option maxHeartbeats 8000000 in
set_option maxRecDepth 100000 in
theorem apart_any (v : Int) (Ad : Option Addr) (k cap : Nat) (F : Nat → OpV) (Ae : Option Addr) (k2 cap2 : Nat) (F2 : Nat → OpV) (w : World) (hO : OpsAt w Ad k F) (hO2 : OpsAt w Ae k2 F2) :
    Calls Try.prog 8 #[.int .i64 v, .slice Ad k cap, .slice Ae k2 cap2] w fun e w' => e = .returned (.bool true) ∧ Below w.heap.size w w' := by
  have HO := Lib.hid hO
  have HO2 := Lib.hid hO2
  clear hO hO2
  by_cases hk1 : (15 : Int) < (k : Int)
  · go_enter Try.func8, Try.ntmps8
    go_wp2_with fail
    refine (awake_any w).mono ?_
    rintro e w1 ⟨rfl, hb1⟩
    go_wp2_with fail
    go_ret
    exact ⟨rfl, hb1⟩
  by_cases hk2 : (15 : Int) < (k2 : Int)
  · go_enter Try.func8, Try.ntmps8
    go_wp2_with fail
    refine (awake_any w).mono ?_
    rintro e w1 ⟨rfl, hb1⟩
    go_wp2_with fail
    go_ret
    exact ⟨rfl, hb1⟩
  go_enter Try.func8, Try.ntmps8
  go_wp2_with fail
  refine (awake_any w).mono ?_
  rintro e w1 ⟨rfl, hb1⟩
  go_wp2_with fail
  refine (built_any v Ad k cap F w1 (HO.out.below hb1)).mono ?_
  rintro e w2 (⟨hv, rfl, hb2⟩ | ⟨vars, q, p, m, i, rfl, hi, ⟨sv, lv, tv, ds, n, X, T, G, hD, hn, hds, hb2⟩, rfl⟩)
  · clear hv
    go_wp2_with fail
    go_ret
    exact ⟨rfl, hb1.trans (hb2.mono hb1.size)⟩
  obtain ⟨bl, cl, bt, ct, rfl, rfl, hbl, hbt⟩ := hD.forms
  have n2 := hD.two
  have v8 := hD.ar.v8
  have hp8 := pow8 v8
  have hp0 := Nat.two_pow_pos vars
  have hql := lt_of_get hD.blk
  have z2 := hD.c2
  obtain ⟨ti, hti, htz, hts, htb⟩ := info35
  have HTI := Lib.hid hti
  have HTZ := Lib.hid htz
  have HTS := Lib.hid hts
  have HTB := Lib.hid htb
  clear hti htz hts htb
  obtain ⟨ui, hti, htz, hts, htb⟩ := info37
  have HUI := Lib.hid hti
  have HUZ := Lib.hid htz
  have HUS := Lib.hid hts
  have HUB := Lib.hid htb
  clear hti htz hts htb
  have hB2 := hb2.size
  have hown0 : (w2.alloc (.cells #[] 35)).ownsRow w1.heap.size 35 1 (.slice (some ⟨w2.heap.size, 0, none⟩) 0 0) 0 [] := ⟨rfl, .inr ⟨w2.heap.size, 0, #[], rfl, hB2, heap_alloc_new _ _, Nat.le_refl _, by unfold maxLen; omega, rfl, rfl⟩⟩
  have h1c : ∀ u ∈ vrow (nodeV X) n, u.oneCell' = true := by
    intro u hu
    simp only [vrow, List.mem_map] at hu
    obtain ⟨j, _, rfl⟩ := hu
    rfl
  have H1C := Lib.hid h1c
  have H0 := Lib.hid hown0
  clear h1c hown0
  go_wp2_with (at_builtin; refine wpList_append_lies _ rfl _ _ 28 rfl w1.heap.size 35 ti _ 1 8 Try.underlying28 HTI.out HTZ.out HTS.out HTB.out rfl (by omega) (.slice (some ⟨w2.heap.size, 0, none⟩) 0 0) 0 [] rfl H0.out ⟨bl, 0, none⟩ n cl (vrow (nodeV X) n) rfl (by rw [vrow_length]; omega) ((hD.lrow.alloc _).cells rfl) H1C.out (by omega) (by unfold maxLen; omega) (by omega) (by simp; omega) _ rfl ?_; intro gw capw w3 hownw hgroww hatw hltw)
  have hw3 : w3.ownsRow w1.heap.size 35 1 (.slice (some ⟨gw, 0, none⟩) n capw) n (vrow (nodeV X) n) := by
    simpa using hownw
  have hgw : w2.heap.size ≤ gw := by
    rcases hatw with e | e
    · have : w2.heap.size = gw := by simpa [Value.ownBlock] using e
      omega
    · simp at e; omega
  have hb3 : Below w2.heap.size w2 w3 := by
    refine ((Below.refl _ w2).alloc (Nat.le_refl _) (.cells #[] 35)).grown hgroww (by simp) fun j hj => ?_
    have : w2.heap.size = j := by simpa [Value.ownBlock] using hj
    omega
  have hD3 := hD.below hb3
  have hM0 : MoreAt w1 w3 q p m vars n X (.slice (some ⟨gw, 0, none⟩) n capw) 0 := by
    refine ⟨sv, _, _, ds, n, X, T, G, hD3, Nat.le_refl _, by omega, by omega, fun _ _ => rfl, hw3, ?_, hb2.trans (hb3.mono hb2.size)⟩
    intro e
    have : gw = bl := by simpa [Value.ownBlock] using e
    omega
  have HM0 := Lib.hid hM0
  clear hM0 hD hD3 hownw hgroww hatw z2 hw3 hgw hb3 H0 H1C
  go_loopw [11, 12, 13, 14] (fun i' _ _ _ wr => ∃ i2 : Nat, i2 ≤ k2 ∧ i' = .int .i64 (i2 : Int) ∧ MoreAt w1 wr q p m vars n X (.slice (some ⟨gw, 0, none⟩) n capw) i2) (fun i' _ _ _ _ => k2 - (intOf i').toNat)
  case atStart => exact ⟨0, Nat.zero_le _, rfl, HM0.out⟩
  case round =>
    obtain ⟨i2, hik, rfl, hM⟩ := hrel
    by_cases hlt : i2 < k2
    · obtain ⟨sv', lv', tv', ds', n', X', T', G', hD, hn0, hnn, hdd, hXX, hwv, hne, hbr⟩ := hM
      obtain ⟨ab, ao, rfl, hab, o0, o1, o2, o3, o4, o5, r1, r2, r3⟩ := (HO2.out.below hb1) i2 hlt
      have y0 := (hbr.cell (p := ⟨ab, ao + i2 * 6, none⟩) hab).trans o0
      have y1 := (hbr.cell (p := ⟨ab, ao + i2 * 6 + 1, none⟩) hab).trans o1
      have y2 := (hbr.cell (p := ⟨ab, ao + i2 * 6 + 2, none⟩) hab).trans o2
      have y3 := (hbr.cell (p := ⟨ab, ao + i2 * 6 + 3, none⟩) hab).trans o3
      have y4 := (hbr.cell (p := ⟨ab, ao + i2 * 6 + 4, none⟩) hab).trans o4
      have y5 := (hbr.cell (p := ⟨ab, ao + i2 * 6 + 5, none⟩) hab).trans o5
      have hlt1 : (i2 : Int) < (k2 : Int) := by omega
      have HXX := Lib.hid hXX
      clear o0 o1 o2 o3 o4 o5 hXX
      go_wp2_with fail
      refine (playK_any hD _ _ _ _ _ _ r1 r2 r3 (by omega)).mono ?_
      rintro e w4 ⟨⟨hb4, hcases⟩, hkeep⟩
      have hwv4 := hkeep _ _ _ _ _ _ (by decide) (by decide) hwv
      clear hkeep
      rcases hcases with ⟨rfl, sv2, hD4⟩ | ⟨r, t, g, ds2, sv2, rfl, hr, hT, l6, hD4⟩
      · clear y0 y1 y2 y3 y4 y5
        go_wp2_with fail
        go_roundw
        case rel => exact ⟨i2 + 1, by omega, by go_num, sv2, lv', tv', ds', n', X', T', G', hD4, hn0, by omega, by omega, HXX.out, hwv4, hne, hbr.trans hb4⟩
        case measure => simp [intOf]; omega
      · clear y0 y1 y2 y3 y4 y5
        obtain ⟨bt, ctt, rfl, _, _, _⟩ := hT.form (Nat.two_pow_pos _)
        have hnil : ∀ w, (binOp .eql 37 (.slice (some ⟨bt, 0, none⟩) (2 ^ vars) ctt) (.slice none 0 0)).run Try.prog w = .ok (.bool false) w := fun w => by kernel_rfl
        have z2 := hD4.c2
        have hql := lt_of_get hD4.blk
        have hBs : w1.heap.size ≤ w4.heap.size := Nat.le_trans hbr.size hb4.size
        have hne4 := hne
        go_wp2_with (first | (at_builtin; refine wpList_append_lies _ rfl _ _ 28 rfl w1.heap.size 35 ti _ 1 8 Try.underlying28 HTI.out HTZ.out HTS.out HTB.out rfl (by omega) lv' n' (vrow (nodeV X') n') rfl ?_ _ 1 1 [.int .i64 (r : Int)] rfl rfl (news1 _ _ _ _ rfl) (one_int _) (by omega) (by unfold maxLen; omega) (by omega) ?_ _ rfl ?_; exact hD4.lrow.alloc _; (have := hbr.size; have := hb4.size; simp; omega); intro g5 cap5 w5 hown5 hgrow5 hat5 hlt5; obtain ⟨hc2, hf2⟩ := grown_q hD4.blk hD4.lrow (by decide) hgrow5 2; obtain ⟨hc3, hf3⟩ := grown_q hD4.blk hD4.lrow (by decide) hgrow5 3; have HH := Half.make hD4 (by omega) hr hT hown5 hgrow5; have hw5 := own_beside (i := 2) (x := .slice (some ⟨g5, 0, none⟩) (n' + 1) cap5) hwv4 hne4 hgrow5 hD4.blk; have hne5 : (Value.slice (some ⟨gw, 0, none⟩) n capw).ownBlock ≠ (Value.slice (some ⟨g5, 0, none⟩) (n' + 1) cap5).ownBlock := beside_new hwv4 hne4 (by rcases hat5 with e | e; exact .inl e; exact .inr (by simpa using e)); have hb5 := below_push (x := .slice (some ⟨g5, 0, none⟩) (n' + 1) cap5) (a := ⟨q, 2, none⟩) hD4.lrow hgrow5 hD4.hq hBs; simp at hc2 hc3) | (at_builtin; refine wpList_append_lies _ rfl _ _ 29 rfl w1.heap.size 37 ui _ 1 24 Try.underlying29 HUI.out HUZ.out HUS.out HUB.out rfl (by omega) tv' n' (vrow T' n') rfl ?_ _ 1 1 [.slice (some ⟨bt, 0, none⟩) (2 ^ vars) ctt] rfl rfl ?_ (one_slice _ _ _) (by omega) (by unfold maxLen; omega) (by omega) ?_ _ rfl ?_; exact HH.trow.alloc _; exact news1 _ _ _ _ (by simp [World.setCell]); (have := hb5.size; simp at this ⊢; omega); intro g6 cap6 w6 hown6 hgrow6 hat6 hlt6; obtain ⟨hd3, hf4⟩ := grown_q HH.blk HH.trow (by decide) hgrow6 3; have HDD := Half.done HH hown6 hgrow6; have hw6 := own_tf hw5 (tf_push (a := ⟨q, 3, none⟩) (x := .slice (some ⟨g6, 0, none⟩) (n' + 1) cap6) HH.trow hgrow6 HH.blk) (by decide) (by decide); have hb6 := below_push (x := .slice (some ⟨g6, 0, none⟩) (n' + 1) cap6) (a := ⟨q, 3, none⟩) HH.trow hgrow6 HH.hq (Nat.le_trans hBs hb5.size); simp at hd3))
        go_roundw
        case rel => exact ⟨i2 + 1, by omega, by go_num, sv2, _, _, ds2, n' + 1, _, _, _, HDD, by omega, by omega, by omega, (fun j hj => by rw [← HXX.out j hj]; exact if_neg (by omega)), hw6, hne5, ((hbr.trans hb4).trans hb5).trans hb6⟩
        case measure => simp [intOf]; omega
    · obtain ⟨sv', lv', tv', ds', n', X', T', G', hD, hn0, hnn, hdd, hXX, hwv, hne, hbr⟩ := hM
      have hlt1 : ¬ (i2 : Int) < (k2 : Int) := by omega
      obtain ⟨bl', cl', bt', ct', rfl, rfl, hbl', hbt'⟩ := hD.forms
      have hXX' := Lib.hid hXX
      have HD := Lib.hid hD
      have HW := Lib.hid hwv
      have hcw : n ≤ capw := by
        rcases hwv.2 with ⟨e, _⟩ | ⟨_, _, _, e, _, _, hc, _⟩
        · cases e
        · injection e with _ _ e; omega
      have hct : n' ≤ ct' := by
        rcases hD.trow.2 with ⟨e, _⟩ | ⟨_, _, _, e, _, _, hc, _⟩
        · cases e
        · injection e with _ _ e; omega
      clear hXX hD hwv hne
      go_wp2_with fail
      obtain ⟨Wr, rfl⟩ : ∃ Wr, Wr = wr := ⟨_, rfl⟩
      go_loopw [15, 16, 17] (fun j' _ _ wq => ∃ j : Nat, j ≤ n ∧ j' = .int .i64 (j : Int) ∧ Below Wr.heap.size Wr wq) (fun j' _ _ _ => n - (intOf j').toNat)
      case atStart => exact ⟨0, Nat.zero_le _, rfl, Below.refl _ _⟩
      case round =>
        obtain ⟨j, hj, rfl, hbq⟩ := hrel
        have hDq := HD.out.below hbq
        by_cases hjl : j < n
        · have hjl' : (j : Int) < (n : Int) := by omega
          have hjn : j < n' := by omega
          have hjn' : (j : Int) < (n' : Int) := by omega
          have hHas := hDq.has j hjn
          have z0 := hDq.c0
          have hgl : gw < Wr.heap.size := by
            have h := HW.out
            exact (h.lt gw rfl).2
          have zw : wr.cell? ⟨gw, j, none⟩ = some (.int .i64 (X' j : Int)) := by
            have h := HW.out
            rw [hXX'.out j hjl]
            exact (hbq.cell (p := ⟨gw, j, none⟩) hgl).trans ((h.cellAt j (by omega)).trans (vrow_at _ hjl))
          go_wp2_with fail
          go_region_held3 (fun w' => w'.cell? ⟨q, 0, none⟩ = some (.pointer (some ⟨p, 0, none⟩)) ∧ w'.cell? ⟨gw, j, none⟩ = some (.int .i64 (X' j : Int))) (first | exact ⟨z0, zw⟩ | exact ⟨hD6.c0, zw6⟩)
            (first
              | (go_at_call 15; (with_reducible refine (countH hDq.drew.ar hHas).mono ?_); rintro e W6 ⟨rfl, hb6⟩; have hD6 := hDq.drew.below hb6; have zw6 : W6.cell? ⟨gw, j, none⟩ = some (.int .i64 (X' j : Int)) := (hb6.cell (p := ⟨gw, j, none⟩) (Nat.lt_of_lt_of_le hgl hbq.size)).trans zw))
          clear z0 zw
          have z3 := hD6.c3
          have zt := hD6.tcell hjn
          go_wp2_with fail
          refine (countT (2 ^ vars) hp0 hp8 _ (hD6.tab j hjn)).mono ?_
          rintro e W7 ⟨rfl, rfl⟩
          have ec : (List.range (2 ^ vars)).countP (fun s => G' j (Bd.bits s)) = cntG (G' j) vars := rfl
          rw [ec]
          clear ec z3 zt zw6
          have hbT : Below Wr.heap.size Wr W6 := hbq.drew.trans (hb6.mono hbq.size)
          go_wp2_with fail
          go_roundw
          case rel => exact ⟨j + 1, by omega, by go_num, hbT⟩
          case measure => simp [intOf]; omega
        · have hjl' : ¬ (j : Int) < (n : Int) := by omega
          go_wp2_with fail
          go_ret
          exact ⟨rfl, hb1.trans ((hbr.trans (hbq.mono hbr.size)).mono hb1.size)⟩
end Go.Proofs.Ythhcahojbgcihaa
