/- What is proved: what the statements' world comes to when up to thirty ops were played. -/
import Derived.Test.YthhcahojbgcihaaBu0
import Derived.Test.YthhcahojbgcihaaPla
import Derived.Test.YthhcahojbgcihaaPlb
import Derived.Test.YthhcahojbgcihaaPlc
import Derived.Test.YthhcahojbgcihaaPld
namespace Go.Proofs.Ythhcahojbgcihaa
open Go.RowKit Bd

section
variable {w : World} {B q p m vars : Nat} {sv lv tv : Value} {ds : List Dec} {n : Nat} {X : Nat → Nat} {T : Nat → Value} {G : Nat → (Nat → Bool) → Bool}

theorem play_any (h : Wd w B q p m sv lv tv vars ds n X T G) (D A Bb C N : Int) (To : Bool) (hA : inI64 A) (hB : inI64 Bb) (hC : inI64 C) (hfew : ds.length + 256 ≤ 100000) :
    Calls Try.prog 28 #[.pointer (some ⟨q, 0, none⟩), .agg #[.int .i64 D, .int .i64 A, .int .i64 Bb, .int .i64 C, .int .i64 N, .bool To]] w (Played w B q p m lv tv vars ds n X T G) := by
  by_cases hD : 1 ≤ D ∧ D ≤ 7
  · by_cases h1 : D = 1
    · subst h1
      by_cases hN : 0 ≤ N ∧ N < vars
      · obtain ⟨y, rfl⟩ := Int.eq_ofNat_of_zero_le hN.1
        exact play_var h A Bb C To hA hB hC y (by omega) hfew
      · exact play_var_no h A Bb C N To hA hB hC hN
    by_cases h2 : D = 2
    · subst h2; exact play_not h A Bb C N To hA hB hC hfew
    by_cases h3 : D = 3
    · subst h3; exact play_and h A Bb C N To hA hB hC hfew
    by_cases h4 : D = 4
    · subst h4; exact play_or h A Bb C N To hA hB hC hfew
    by_cases h5 : D = 5
    · subst h5; exact play_xor h A Bb C N To hA hB hC hfew
    by_cases h6 : D = 6
    · subst h6; exact play_ite h A Bb C N To hA hB hC hfew
    · obtain rfl : D = 7 := by omega
      by_cases hN : 0 ≤ N ∧ N < vars
      · obtain ⟨y, rfl⟩ := Int.eq_ofNat_of_zero_le hN.1
        exact play_restrict h A Bb C To hA hB hC y (by omega) hfew
      · exact play_restrict_no h A Bb C N To hA hB hC hN
  · exact play_none h D A Bb C N To hA hB hC hD
end

/-- The ops as they lie in memory. -/
structure OpV where
  D : Int
  A : Int
  Bb : Int
  C : Int
  N : Int
  To : Bool

def OpsAt (w : World) (Ad : Option Addr) (k : Nat) (F : Nat → OpV) : Prop := ∀ i, i < k → ∃ ab ao, Ad = some ⟨ab, ao, none⟩ ∧ ab < w.heap.size ∧ w.cell? ⟨ab, ao + i * 6, none⟩ = some (.int .i64 (F i).D) ∧ w.cell? ⟨ab, ao + i * 6 + 1, none⟩ = some (.int .i64 (F i).A) ∧ w.cell? ⟨ab, ao + i * 6 + 2, none⟩ = some (.int .i64 (F i).Bb) ∧
  w.cell? ⟨ab, ao + i * 6 + 3, none⟩ = some (.int .i64 (F i).C) ∧ w.cell? ⟨ab, ao + i * 6 + 4, none⟩ = some (.int .i64 (F i).N) ∧ w.cell? ⟨ab, ao + i * 6 + 5, none⟩ = some (.bool (F i).To) ∧ inI64 (F i).A ∧ inI64 (F i).Bb ∧ inI64 (F i).C

/-- In the midst of it: so many ops were played. -/
def BuiltAt (w wr : World) (q p m vars i : Nat) : Prop := ∃ sv lv tv ds n X T G, Wd wr w.heap.size q p m sv lv tv vars ds n X T G ∧ n ≤ i + 2 ∧ ds.length ≤ 255 * i ∧ Below w.heap.size w wr

def Built (w : World) (v : Int) (e : Ending) (w' : World) : Prop :=
  (¬ (0 ≤ v ∧ v ≤ 8) ∧ e = .returned (.tuple #[.pointer none, .bool true]) ∧ Below w.heap.size w w') ∨
  (∃ vars q p m i, v = ((vars : Nat) : Int) ∧ i ≤ 30 ∧ BuiltAt w w' q p m vars i ∧ e = .returned (.tuple #[.pointer (some ⟨q, 0, none⟩), .bool true]))

theorem info35 : ∃ i, Try.prog.info? 35 = some i ∧ i.zero = some (.int .i64 0) ∧ i.size = 1 ∧ i.bytes = 8 := ⟨_, rfl, by kernel_rfl, by kernel_rfl, by kernel_rfl⟩
theorem info37 : ∃ i, Try.prog.info? 37 = some i ∧ i.zero = some (.slice none 0 0) ∧ i.size = 1 ∧ i.bytes = 24 := ⟨_, rfl, by kernel_rfl, by kernel_rfl, by kernel_rfl⟩

set_option maxHeartbeats 2000000 in
theorem built_no (v : Int) (hv : ¬ (0 ≤ v ∧ v ≤ 8)) (l : Value) (w : World) : Calls Try.prog 10 #[.int .i64 v, l] w (Built w v) := by
  have HN := Lib.hid (new_no v (by omega) w)
  have HV := Lib.hid hv
  clear hv
  go_enter Try.func10, Try.ntmps10
  go_wp2_with fail
  refine (HN.out).mono ?_
  rintro e w1 ⟨rfl, rfl⟩
  go_wp2_with fail
  go_ret2
  exact .inl ⟨HV.out, rfl, Below.refl _ _⟩

theorem news1 (W : World) (x : Value) (t : TypeId) (N : Nat) (hN : W.heap.size = N) : ∀ j u, [x][j]? = some u → (W.alloc (.cells #[x] t)).cell? ((⟨N, 0, none⟩ : Addr).add j) = some u := by
  subst hN
  exact cell_one_new W x t

theorem grown_q {w w1 : World} {B q e size k : Nat} {v : Value} {xs : List Value} {o : Obj} {cs : Array Value} (hq : w.heap[q]? = some (.cells cs 31 (0, 0))) (h : w.ownsRow B e size v k xs) (he : e ≠ 31) (hg : (w.alloc o).grownBy w1 v.ownBlock) (i : Nat) :
    w1.cell? ⟨q, i, none⟩ = cs[i]? ∧ w1.frozen? ⟨q, i, none⟩ = false := by
  have e1 : w1.heap[q]? = some (.cells cs 31 (0, 0)) := by
    refine (hg.block q (by have := lt_of_get hq; simp; omega) ?_).trans ((Below.heap_alloc w o q (lt_of_get hq)).trans hq)
    intro e
    rcases h.2 with ⟨rfl, _⟩ | ⟨g', cap', cur, rfl, _, hh, _⟩
    · cases e
    · have : q = g' := by simpa [Value.ownBlock] using e
      subst this
      rw [hq] at hh
      injection hh with hh
      injection hh with _ h1
      exact he h1.symm
  exact ⟨cell_of_row _ _ _ _ _ _ e1, by simp [World.frozen?, e1]⟩

theorem one_int (r : Int) : ∀ u ∈ [Value.int .i64 r], u.oneCell' = true := by simp [Value.oneCell']
theorem one_slice (a : Option Addr) (n c : Nat) : ∀ u ∈ [Value.slice a n c], u.oneCell' = true := by simp [Value.oneCell']

theorem wd_start {w w1 w2 w3 : World} {vars : Nat} {v0 v1 : Value} (hb1 : Below w.heap.size w w1) (hA1 : Ar w1 w.heap.size (w.heap.size + 1) w.heap.size (.slice none 0 0) vars [])
    (hb2 : Below (w1.alloc (.cells #[.int .i64 0, .int .i64 1] 35)).heap.size (w1.alloc (.cells #[.int .i64 0, .int .i64 1] 35)) w2) (hT0 : Tab w2 (w1.alloc (.cells #[.int .i64 0, .int .i64 1] 35)).heap.size v0 (2 ^ vars) (fun _ => false))
    (hb3 : Below w2.heap.size w2 w3) (hT1 : Tab w3 w2.heap.size v1 (2 ^ vars) (fun _ => true)) :
    BuiltAt w ((w3.alloc (.cells #[v0, v1] 37)).alloc (.cells #[.pointer (some ⟨w.heap.size + 1, 0, none⟩), .int .i64 (vars : Int), .slice (some ⟨w1.heap.size, 0, none⟩) 2 2, .slice (some ⟨w3.heap.size, 0, none⟩) 2 2] 31)) (w3.heap.size + 1) (w.heap.size + 1) w.heap.size vars 0 := by
  have s1 := hb1.size
  have s2 := hb2.size
  have s3 := hb3.size
  simp at s2
  have hB : ∀ W : World, Below W.heap.size W ((W.alloc (.cells #[v0, v1] 37)).alloc (.cells #[.pointer (some ⟨w.heap.size + 1, 0, none⟩), .int .i64 (vars : Int), .slice (some ⟨w1.heap.size, 0, none⟩) 2 2, .slice (some ⟨w3.heap.size, 0, none⟩) 2 2] 31)) :=
    fun W => ((Below.refl _ W).alloc (Nat.le_refl _) _).alloc (by simp) _
  have hb12 : Below w.heap.size w w2 := (hb1.alloc s1 _).trans (hb2.mono (by simp; omega))
  have hb13 := hb12.trans (hb3.mono (by omega))
  refine ⟨.slice none 0 0, .slice (some ⟨w1.heap.size, 0, none⟩) 2 2, .slice (some ⟨w3.heap.size, 0, none⟩) 2 2, [], 2, fun i => i, fun i => if i = 0 then v0 else v1, fun i _ => i == 1, ⟨?_, ?_, ?_, ?_, ?_, ?_, Nat.le_refl _, by omega, by omega⟩, by omega, by simp, hb13.trans ((hB w3).mono (by omega))⟩
  · exact (((hA1.alloc _).below hb2).below hb3).below (hB w3)
  · have := heap_alloc_new (w3.alloc (.cells #[v0, v1] 37)) (.cells #[.pointer (some ⟨w.heap.size + 1, 0, none⟩), .int .i64 (vars : Int), .slice (some ⟨w1.heap.size, 0, none⟩) 2 2, .slice (some ⟨w3.heap.size, 0, none⟩) 2 2] 31)
    simpa using this
  · refine ⟨rfl, .inr ⟨w1.heap.size, 2, #[.int .i64 0, .int .i64 1], rfl, s1, ?_, Nat.le_refl _, by unfold maxLen; omega, rfl, rfl⟩⟩
    rw [(hB w3).block _ (by omega), hb3.block _ (by omega), hb2.block _ (by simp)]
    exact heap_alloc_new _ _
  · refine ⟨rfl, .inr ⟨w3.heap.size, 2, #[v0, v1], rfl, by omega, ?_, Nat.le_refl _, by unfold maxLen; omega, rfl, rfl⟩⟩
    rw [Below.heap_alloc _ _ _ (by simp)]
    exact heap_alloc_new _ _
  · intro i hi
    match i, hi with
    | 0, _ => exact Has.never _
    | 1, _ => exact Has.always _
  · intro i hi
    match i, hi with
    | 0, _ => exact (((hT0.below hb3).below (hB w3)).mono (by simp; omega))
    | 1, _ => exact ((hT1.below (hB w3)).mono (by omega))

set_option maxHeartbeats 4000000 in
theorem built_yes (vars : Nat) (hv : vars ≤ 8) (Ad : Option Addr) (k cap : Nat) (F : Nat → OpV) (w : World) (hO : OpsAt w Ad k F) : Calls Try.prog 10 #[.int .i64 (vars : Int), .slice Ad k cap] w (Built w (vars : Int)) := by
  have HN := Lib.hid (new_yes vars hv w)
  have HO := Lib.hid hO
  clear hO

  go_enter Try.func10, Try.ntmps10
  go_wp2_with fail
  refine (HN.out).mono ?_
  rintro e w1 ⟨rfl, hA1, hb1⟩
  go_wp2_with fail
  refine (same_any vars hv false _).mono ?_
  rintro e w2 ⟨t0, rfl, hT0, hb2⟩
  obtain ⟨b0, c0, rfl, l0, _, _⟩ := hT0.form (Nat.two_pow_pos _)
  go_wp2_with fail
  refine (same_any vars hv true _).mono ?_
  rintro e w3 ⟨t1, rfl, hT1, hb3⟩
  obtain ⟨b1, c1, rfl, l1, _, _⟩ := hT1.form (Nat.two_pow_pos _)
  go_wp2_with fail
  have hBA := wd_start hb1 hA1 hb2 hT0 hb3 hT1
  generalize (w3.alloc (.cells #[.slice (some ⟨b0, 0, none⟩) (2 ^ vars) c0, .slice (some ⟨b1, 0, none⟩) (2 ^ vars) c1] 37)).alloc (.cells #[.pointer (some ⟨w.heap.size + 1, 0, none⟩), .int .i64 (vars : Int), .slice (some ⟨w1.heap.size, 0, none⟩) 2 2, .slice (some ⟨w3.heap.size, 0, none⟩) 2 2] 31) = W at hBA ⊢
  generalize w3.heap.size + 1 = q at hBA ⊢
  generalize w.heap.size + 1 = pp at hBA ⊢
  have HB := Lib.hid hBA
  clear hBA hA1 hb2 hT0 hb3 hT1 HN
  obtain ⟨ti, hti, htz, hts, htb⟩ := info35
  have HTI := Lib.hid hti
  have HTZ := Lib.hid htz
  have HTS := Lib.hid hts
  have HTB := Lib.hid htb
  clear hti htz hts htb
  obtain ⟨ui, hti, htz, hts, htb⟩ := info37
  have HUI := Lib.hid hti
  have HUZ := Lib.hid htz
  have HUS := Lib.hid hts
  have HUB := Lib.hid htb
  clear hti htz hts htb
  go_loopw [9, 10, 11, 12] (fun i' _ _ _ wr => ∃ i : Nat, i ≤ k ∧ i ≤ 30 ∧ i' = .int .i64 (i : Int) ∧ BuiltAt w wr q pp w.heap.size vars i) (fun i' _ _ _ _ => 30 - (intOf i').toNat)
  case atStart => exact ⟨0, Nat.zero_le _, by omega, rfl, HB.out⟩
  case round =>
    obtain ⟨i, hik, hi30, rfl, hBA⟩ := hrel
    by_cases hlt : i < k ∧ i < 30
    · obtain ⟨sv, lv, tv, ds, n, X, T, G, hD, hn, hds, hbr⟩ := hBA
      obtain ⟨ab, ao, rfl, hab, o0, o1, o2, o3, o4, o5, r1, r2, r3⟩ := HO.out i hlt.1
      have y0 := (hbr.cell (p := ⟨ab, ao + i * 6, none⟩) hab).trans o0
      have y1 := (hbr.cell (p := ⟨ab, ao + i * 6 + 1, none⟩) hab).trans o1
      have y2 := (hbr.cell (p := ⟨ab, ao + i * 6 + 2, none⟩) hab).trans o2
      have y3 := (hbr.cell (p := ⟨ab, ao + i * 6 + 3, none⟩) hab).trans o3
      have y4 := (hbr.cell (p := ⟨ab, ao + i * 6 + 4, none⟩) hab).trans o4
      have y5 := (hbr.cell (p := ⟨ab, ao + i * 6 + 5, none⟩) hab).trans o5
      have hlt1 : (i : Int) < (k : Int) := by omega
      have hlt2 : (i : Int) < 30 := by omega
      clear o0 o1 o2 o3 o4 o5
      go_wp2_with fail
      refine (play_any hD _ _ _ _ _ _ r1 r2 r3 (by omega)).mono ?_
      rintro e w4 ⟨hb4, (⟨rfl, sv', hD4⟩ | ⟨r, t, g, ds', sv', rfl, hr, hT, l6, hD4⟩)⟩
      · clear y0 y1 y2 y3 y4 y5
        go_wp2_with fail
        go_roundw
        case rel => exact ⟨i + 1, by omega, by omega, by go_num, sv', lv, tv, ds, n, X, T, G, hD4, by omega, by omega, hbr.trans hb4⟩
        case measure => simp [intOf]; omega
      · clear y0 y1 y2 y3 y4 y5
        obtain ⟨bt, ctt, rfl, _, _, _⟩ := hT.form (Nat.two_pow_pos _)
        have hnil : ∀ w, (binOp .eql 37 (.slice (some ⟨bt, 0, none⟩) (2 ^ vars) ctt) (.slice none 0 0)).run Try.prog w = .ok (.bool false) w := fun w => by kernel_rfl
        have z2 := hD4.c2
        have hql := lt_of_get hD4.blk
        have hBs : w.heap.size ≤ w4.heap.size := Nat.le_trans hbr.size hb4.size
        have p8 := pow8 hv
        go_wp2_with (first | (at_builtin; refine wpList_append_lies _ rfl _ _ 28 rfl w.heap.size 35 ti _ 1 8 Try.underlying28 HTI.out HTZ.out HTS.out HTB.out rfl (by omega) lv n (vrow (nodeV X) n) rfl ?_ _ 1 1 [.int .i64 (r : Int)] rfl rfl (news1 _ _ _ _ rfl) (one_int _) (by omega) (by unfold maxLen; omega) (by omega) ?_ _ rfl ?_; exact hD4.lrow.alloc _; (have := hbr.size; have := hb4.size; simp; omega); intro g5 cap5 w5 hown5 hgrow5 hat5 hlt5; obtain ⟨hc2, hf2⟩ := grown_q hD4.blk hD4.lrow (by decide) hgrow5 2; obtain ⟨hc3, hf3⟩ := grown_q hD4.blk hD4.lrow (by decide) hgrow5 3; have HH := Half.make hD4 (by omega) hr hT hown5 hgrow5; have hb5 := below_push (x := .slice (some ⟨g5, 0, none⟩) (n + 1) cap5) (a := ⟨q, 2, none⟩) hD4.lrow hgrow5 hD4.hq hBs; simp at hc2 hc3) | (at_builtin; refine wpList_append_lies _ rfl _ _ 29 rfl w.heap.size 37 ui _ 1 24 Try.underlying29 HUI.out HUZ.out HUS.out HUB.out rfl (by omega) tv n (vrow T n) rfl ?_ _ 1 1 [.slice (some ⟨bt, 0, none⟩) (2 ^ vars) ctt] rfl rfl ?_ (one_slice _ _ _) (by omega) (by unfold maxLen; omega) (by omega) ?_ _ rfl ?_; exact HH.trow.alloc _; exact news1 _ _ _ _ (by simp [World.setCell]); (have := hb5.size; simp at this ⊢; omega); intro g6 cap6 w6 hown6 hgrow6 hat6 hlt6; obtain ⟨hd3, hf4⟩ := grown_q HH.blk HH.trow (by decide) hgrow6 3; have HD := Half.done HH hown6 hgrow6; have hb6 := below_push (x := .slice (some ⟨g6, 0, none⟩) (n + 1) cap6) (a := ⟨q, 3, none⟩) HH.trow hgrow6 HH.hq (Nat.le_trans hBs hb5.size); simp at hd3))
        go_roundw
        case rel => exact ⟨i + 1, by omega, by omega, by go_num, sv', _, _, ds', n + 1, _, _, _, HD, by omega, by omega, ((hbr.trans hb4).trans hb5).trans hb6⟩
        case measure => simp [intOf]; omega
    · have HBA := Lib.hid hBA
      clear hBA
      by_cases hik2 : i < k
      · have g1 : (i : Int) < (k : Int) := by omega
        have g2 : ¬ (i : Int) < 30 := by omega
        go_wp2_with fail
        go_ret2
        exact .inr ⟨vars, q, pp, w.heap.size, i, rfl, hi30, HBA.out, rfl⟩
      · have g1 : ¬ (i : Int) < (k : Int) := by omega
        go_wp2_with fail
        go_ret2
        exact .inr ⟨vars, q, pp, w.heap.size, i, rfl, hi30, HBA.out, rfl⟩

theorem built_any (v : Int) (Ad : Option Addr) (k cap : Nat) (F : Nat → OpV) (w : World) (hO : OpsAt w Ad k F) : Calls Try.prog 10 #[.int .i64 v, .slice Ad k cap] w (Built w v) := by
  by_cases hv : 0 ≤ v ∧ v ≤ 8
  · obtain ⟨vars, rfl⟩ := Int.eq_ofNat_of_zero_le hv.1
    exact built_yes vars (by omega) Ad k cap F w hO
  · exact built_no v hv _ w
end Go.Proofs.Ythhcahojbgcihaa
