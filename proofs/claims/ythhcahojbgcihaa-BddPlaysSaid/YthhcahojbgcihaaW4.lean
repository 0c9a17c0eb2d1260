/- What is proved: what choose and settle of package bdd come to. -/
import Derived.Test.YthhcahojbgcihaaW3
import Derived.Deep.RegionHeld3
namespace Go.Proofs.Ythhcahojbgcihaa
open Go.RowKit Bd

section
variable {B p m vars : Nat}

set_option maxHeartbeats 400000 in
theorem choose_low (c x y : Nat) (hc : c < 2) (w : World) : Calls Try.prog 44 #[.pointer (some ⟨p, 0, none⟩), .int .i64 (c : Int), .int .i64 (x : Int), .int .i64 (y : Int)] w fun e w' => e = .returned (.int .i64 ((if c = 0 then y else x : Nat) : Int)) ∧ w = w' := by
  match c, hc with
  | 0, _ =>
    go_enter Try.func44, Try.ntmps44
    go_wp2_with fail
    go_ret
    exact ⟨rfl, rfl⟩
  | 1, _ =>
    go_enter Try.func44, Try.ntmps44
    go_wp2_with fail
    go_ret
    exact ⟨rfl, rfl⟩

set_option maxHeartbeats 2000000 in
theorem choose_any : ∀ (k : Nat) (w : World) (sv : Value) (ds : List Dec) (c x y : Nat), Ar w B p m sv vars ds → c < ds.length + 2 → x < ds.length + 2 → y < ds.length + 2 → top ds c ≤ k → top ds x ≤ k → top ds y ≤ k → k ≤ vars →
    ds.length + 2 ^ k ≤ 100000 →
    Calls Try.prog 44 #[.pointer (some ⟨p, 0, none⟩), .int .i64 (c : Int), .int .i64 (x : Int), .int .i64 (y : Int)] w (Makes w B p m sv vars ds (fun a => if S ds c a then S ds x a else S ds y a) k) := by
  intro k
  have low : ∀ (k : Nat) (w : World) (sv : Value) (ds : List Dec) (c x y : Nat), Ar w B p m sv vars ds → c < 2 → x < ds.length + 2 → y < ds.length + 2 → top ds x ≤ k → top ds y ≤ k →
      Calls Try.prog 44 #[.pointer (some ⟨p, 0, none⟩), .int .i64 (c : Int), .int .i64 (x : Int), .int .i64 (y : Int)] w (Makes w B p m sv vars ds (fun a => if S ds c a then S ds x a else S ds y a) k) := by
    intro k w sv ds c x y h hc hx hy tx ty
    refine (choose_low c x y hc w).mono ?_
    rintro e w' ⟨rfl, rfl⟩
    refine ⟨_, ds, (Made.refl h.wf (n := if c = 0 then y else x) (t := k) (by split <;> assumption) (by split <;> assumption)).congr fun a => ?_, Gives.of_below h rfl (Below.refl _ _)⟩
    rw [S_lt2 hc]
    match c, hc with
    | 0, _ => rfl
    | 1, _ => rfl
  induction k with
  | zero =>
    intro w sv ds c x y h hc hx hy tc tx ty hk hfew
    exact low 0 w sv ds c x y h (by unfold top at tc; split at tc <;> omega) hx hy tx ty
  | succ t ih =>
    intro w sv ds c x y h hc hx hy tc tx ty hk hfew
    by_cases hc2 : c < 2
    · exact low _ w sv ds c x y h hc2 hx hy tx ty
    by_cases hlow : top ds c ≤ t ∧ top ds x ≤ t ∧ top ds y ≤ t
    · exact (ih w sv ds c x y h hc hx hy hlow.1 hlow.2.1 hlow.2.2 (by omega) (by rw [Nat.pow_succ] at hfew; have := Nat.one_le_two_pow (n := t); omega)).mono fun e w' ⟨r, ds', hM, hG⟩ => ⟨r, ds', hM.mono (by omega), hG⟩
    have hv8 := h.v8
    have hA := h.alloc (.cells #[.int .i64 (c : Int), .int .i64 (x : Int), .int .i64 (y : Int)] 35)
    have hT := top_any hA w.heap.size 3 3 (fun i => if i = 0 then c else if i = 1 then x else y) (by omega) (Nodes.new3 w c x y) (fun i _ => by split; assumption; split <;> assumption)
    have e0 : (tops ds (fun i => if i = 0 then c else if i = 1 then x else y) 3 : Int) - 1 = (t : Int) := by simp [tops]; omega
    rw [e0] at hT
    have HT := Lib.hid hT
    obtain ⟨c1, c2, c3, c4, c5⟩ := split_ok h.wf hc tc
    obtain ⟨x1, x2, x3, x4, x5⟩ := split_ok h.wf hx tx
    obtain ⟨y1, y2, y3, y4, y5⟩ := split_ok h.wf hy ty
    have hc0 : ((c : Int) == 0) = false := beq_eq_false_iff_ne.2 (by omega)
    have hc1 : ((c : Int) == 1) = false := beq_eq_false_iff_ne.2 (by omega)
    have C5 := Lib.hid c5
    have X5 := Lib.hid x5
    have Y5 := Lib.hid y5
    have IH := Lib.hid ih
    have HF := Lib.hid hfew
    clear hT e0 c5 x5 y5 ih hfew hlow low
    go_enter Try.func44, Try.ntmps44
    go_wp2_with fail
    refine (HT.out).mono ?_
    rintro e w1 ⟨rfl, hb1⟩
    have hA1 := hA.below hb1
    go_wp2_with fail
    refine (split_any hA1 c t hc (by omega)).mono ?_
    rintro e w2 ⟨rfl, hb2⟩
    have hA2 := hA1.below hb2
    go_wp2_with fail
    refine (split_any hA2 x t hx (by omega)).mono ?_
    rintro e w3 ⟨rfl, hb3⟩
    have hA3 := hA2.below hb3
    go_wp2_with fail
    refine (split_any hA3 y t hy (by omega)).mono ?_
    rintro e w3' ⟨rfl, hb3'⟩
    have hA3' := hA3.below hb3'
    have hb03 : Below w.heap.size w w3' := by
      have b0 : Below w.heap.size w (w.alloc (.cells #[.int .i64 (c : Int), .int .i64 (x : Int), .int .i64 (y : Int)] 35)) := (Below.refl _ _).alloc (Nat.le_refl _) _
      have b1 := b0.trans (hb1.mono b0.size)
      have b2 := b1.trans (hb2.mono b1.size)
      have b3 := b2.trans (hb3.mono b2.size)
      exact b3.trans (hb3'.mono b3.size)
    have F3 := Fr.of_below hb03 p m sv
    have hk' : t ≤ vars := by omega
    have hpow : 2 ^ (t + 1) = 2 ^ t + 2 ^ t := by rw [Nat.pow_succ]; omega
    have hone : 1 ≤ 2 ^ t := Nat.one_le_two_pow
    have hfew1 : ds.length + 2 ^ t ≤ 100000 := by have := HF.out; omega
    go_wp2_with fail
    refine (IH.out w3' sv ds _ _ _ hA3' c1 x1 y1 c3 x3 y3 hk' hfew1).mono ?_
    rintro e w4 ⟨r1, ds1, M1, rfl, sv1, hA4, F4⟩
    obtain ⟨d1, d2, d3⟩ := M1.old h.wf c2
    obtain ⟨u1, u2, u3⟩ := M1.old h.wf x2
    obtain ⟨v1, v2, v3⟩ := M1.old h.wf y2
    have hfew2 : ds1.length + 2 ^ t ≤ 100000 := by have := HF.out; have := M1.few; omega
    have D := Lib.hid d3
    have U := Lib.hid u3
    have V := Lib.hid v3
    have d4 : top ds1 (splitOf ds c t).2 ≤ t := by omega
    have u4 : top ds1 (splitOf ds x t).2 ≤ t := by omega
    have v4 : top ds1 (splitOf ds y t).2 ≤ t := by omega
    have HP := Lib.hid hpow
    clear d2 u2 v2 d3 u3 v3 hpow
    go_wp2_with fail
    refine (IH.out w4 sv1 ds1 _ _ _ hA4 d1 u1 v1 d4 u4 v4 hk' hfew2).mono ?_
    rintro e w5 ⟨r2, ds2, M2, rfl, sv2, hA5, F5⟩
    have hfew3 : ds2.length < 100000 := by have := HF.out; have := M1.few; have := M2.few; have := HP.out; omega
    obtain ⟨J, j1, j2⟩ := made_join M1 M2 (show t < vars by omega)
    have hD := decide_any hA5 (t, r1, r2) (show t < vars by omega) j1 M2.lt j2 M2.top hfew3
    unfold keyOf at hD
    have HD := Lib.hid hD
    clear hD
    go_wp2_with fail
    refine (HD.out).mono ?_
    rintro e w6 ⟨rfl, sv3, hA6, F6⟩
    go_wp2_with fail
    go_ret
    refine ⟨_, _, J.congr fun a => ?_, rfl, sv3, hA6, ((F3.trans F4).trans F5).trans F6⟩
    rw [C5.out a, X5.out a, Y5.out a, D.out a, U.out a, V.out a]
    by_cases e : a t = true <;> simp [e]

/-- A decision that lies in a block of its own. -/
def Box (W : World) (b : Nat) (d : Dec) : Prop := W.heap[b]? = some (.cells #[.int .i64 (d.1 : Int), .int .i64 (d.2.1 : Int), .int .i64 (d.2.2 : Int)] 67)

section
variable {W W' : World} {b : Nat} {d : Dec}
theorem Box.c0 (h : Box W b d) : W.cell? ⟨b, 0, none⟩ = some (.int .i64 (d.1 : Int)) := cell_of_row _ _ _ _ _ _ h
theorem Box.c1 (h : Box W b d) : W.cell? ⟨b, 1, none⟩ = some (.int .i64 (d.2.1 : Int)) := cell_of_row _ _ _ _ _ _ h
theorem Box.c2 (h : Box W b d) : W.cell? ⟨b, 2, none⟩ = some (.int .i64 (d.2.2 : Int)) := cell_of_row _ _ _ _ _ _ h
theorem Box.drew (h : Box W b d) : Box W.drew b d := h
theorem Box.below (h : Box W b d) (hb : Below W.heap.size W W') : Box W' b d := (hb.block b (lt_of_get h)).trans h
theorem Box.fr {sv sv' : Value} {p m : Nat} (h : Box W b d) (F : Fr p m sv W sv' W') (hp : b ≠ p) (hm : b ≠ m) (hs : sv.ownBlock ≠ some b) : Box W' b d := (F.blk b (lt_of_get h) hp hm hs).trans h
end

def sel (t : Bool) (b c : Int) : Int := if t then c else b
theorem side_sel (a b c : Int) (t : Bool) (w : World) : Calls Try.prog 33 #[.agg #[.int .i64 a, .int .i64 b, .int .i64 c], .bool t] w fun e w' => e = .returned (.int .i64 (sel t b c)) ∧ Below w.heap.size w w' := side_any a b c t w

theorem fr_own {w w' : World} {sv sv' : Value} {b : Nat} (F : Fr p m sv w sv' w') (hb : b < w.heap.size) (hs : sv.ownBlock ≠ some b) : sv'.ownBlock ≠ some b := by
  rcases F.own with e | e
  · rw [e]; exact hs
  · intro c; have := e b c; omega

set_option maxHeartbeats 2000000 in
theorem settle_any (i : Nat) (to : Bool) : ∀ (k : Nat) (w : World) (sv : Value) (ds : List Dec) (x : Nat), Ar w B p m sv vars ds → x < ds.length + 2 → top ds x ≤ k → k ≤ vars →
    ds.length + 2 ^ k ≤ 100000 →
    Calls Try.prog 38 #[.pointer (some ⟨p, 0, none⟩), .int .i64 (x : Int), .int .i64 (i : Int), .bool to] w (Makes w B p m sv vars ds (fun a => S ds x (upd a i to)) k) := by
  intro k
  induction k using Nat.strongRecOn with
  | ind k ih =>
    intro w sv ds x h hx tx hk hfew
    have hv8 := h.v8
    have hA := h.alloc (.cells #[.int .i64 (x : Int)] 35)
    have hT := top_any hA w.heap.size 1 1 (fun _ => x) (by omega) (Nodes.new1 w (x : Int)) (fun _ _ => hx)
    have e0 : (tops ds (fun _ => x) 1 : Int) - 1 = (top ds x : Int) - 1 := by simp [tops]
    rw [e0] at hT
    have HT := Lib.hid hT
    clear hT e0
    by_cases h1 : top ds x ≤ i
    · have hlt : decide (((top ds x : Int) - 1) < (i : Int)) = true := by simp; omega
      clear ih hfew
      go_enter Try.func38, Try.ntmps38
      go_wp2_with fail
      refine (HT.out).mono ?_
      rintro e w1 ⟨rfl, hb1⟩
      go_wp2_with fail
      go_ret
      have b0 : Below w.heap.size w (w.alloc (.cells #[.int .i64 (x : Int)] 35)) := (Below.refl _ _).alloc (Nat.le_refl _) _
      exact ⟨x, ds, (Made.refl h.wf hx tx).congr fun a => (S_upd h.wf hx h1 a to).symm, Gives.of_below h rfl (b0.trans (hb1.mono b0.size))⟩
    · by_cases h3 : top ds x = i + 1
      · have h2 : 2 ≤ x := by unfold top at h1; split at h1 <;> omega
        have ht : top ds x = (dec ds x).1 + 1 := if_neg (by omega)
        have hni : (dec ds x).1 = i := by omega
        have heq : (((dec ds x).1 : Int) == (i : Int)) = true := beq_iff_eq.2 (by omega)
        have hlt : decide (((top ds x : Int) - 1) < (i : Int)) = false := by simp; omega
        have l1 := h.wf.lo x h2 hx
        have l2 := h.wf.hi x h2 hx
        have l3 := h.wf.tlo x h2 hx
        have l4 := h.wf.thi x h2 hx
        have HM : Hid (Made vars ds ds (if to then (dec ds x).2.2 else (dec ds x).2.1) (fun a => S ds x (upd a i to)) k) := by
          refine (Made.refl h.wf (n := if to then (dec ds x).2.2 else (dec ds x).2.1) (t := k) (by split <;> omega) (by split <;> omega)).congr fun a => ?_
          cases to
          · rw [if_neg (by simp), S_lo h.wf h2 hx, hni]
          · rw [if_pos rfl, S_hi h.wf h2 hx, hni]
        have HNI := Lib.hid hni
        have HTT := Lib.hid ht
        clear ht ih hfew h3 hni
        go_enter Try.func38, Try.ntmps38
        go_wp2_with fail
        refine (HT.out).mono ?_
        rintro e w1 ⟨rfl, hb1⟩
        have hA1 := hA.below hb1
        go_wp2_with fail
        refine (decision_any hA1 x h2 hx).mono ?_
        rintro e w2 ⟨rfl, hb2⟩
        unfold keyOf
        go_wp2_with fail
        refine (side_sel _ _ _ _ _).mono ?_
        rintro e w3 ⟨rfl, hb3⟩
        go_wp2_with fail
        go_ret
        have b0 : Below w.heap.size w (w.alloc (.cells #[.int .i64 (x : Int)] 35)) := (Below.refl _ _).alloc (Nat.le_refl _) _
        have b1 := b0.trans (hb1.mono b0.size)
        have b2 := b1.trans (hb2.mono b1.size)
        have b3 := b2.alloc b2.size (.cells #[.int .i64 ((dec ds x).1 : Int), .int .i64 ((dec ds x).2.1 : Int), .int .i64 ((dec ds x).2.2 : Int)] 67)
        have b4 := b3.trans (hb3.mono b3.size)
        refine ⟨_, ds, HM.out, Gives.of_below h (ret_int ?_) b4⟩
        cases to <;> rfl
      · have h2 : 2 ≤ x := by unfold top at h1; split at h1 <;> omega
        have ht : top ds x = (dec ds x).1 + 1 := if_neg (by omega)
        have hne : (((dec ds x).1 : Int) == (i : Int)) = false := beq_eq_false_iff_ne.2 (by omega)
        have hlt : decide (((top ds x : Int) - 1) < (i : Int)) = false := by simp; omega
        have l1 := h.wf.lo x h2 hx
        have l2 := h.wf.hi x h2 hx
        have l3 := h.wf.tlo x h2 hx
        have l4 := h.wf.thi x h2 hx
        have l5 := h.wf.name x h2 hx
        have dt : (dec ds x).1 < k := by omega
        have HX5 := Lib.hid (fun a => S_ge2 h.wf h2 hx a)
        have IH := Lib.hid ih
        have HF := Lib.hid hfew
        have HTT := Lib.hid ht
        have HNI := Lib.hid (show (dec ds x).1 ≠ i by omega)
        clear ht ih hfew h3
        go_enter Try.func38, Try.ntmps38
        go_wp2_with fail
        refine (HT.out).mono ?_
        rintro e w1 ⟨rfl, hb1⟩
        have hA1 := hA.below hb1
        go_wp2_with fail
        refine (decision_any hA1 x h2 hx).mono ?_
        rintro e w2 ⟨rfl, hb2⟩
        have hA2 := hA1.below hb2
        unfold keyOf
        go_wp2_with fail
        have hbW : Below w.heap.size w (w2.alloc (.cells #[.int .i64 ((dec ds x).1 : Int), .int .i64 ((dec ds x).2.1 : Int), .int .i64 ((dec ds x).2.2 : Int)] 67)) := by
          have b0 : Below w.heap.size w (w.alloc (.cells #[.int .i64 (x : Int)] 35)) := (Below.refl _ _).alloc (Nat.le_refl _) _
          have b1 := b0.trans (hb1.mono b0.size)
          have b2 := b1.trans (hb2.mono b1.size)
          exact b2.alloc b2.size _
        have hAW := hA2.alloc (.cells #[.int .i64 ((dec ds x).1 : Int), .int .i64 ((dec ds x).2.1 : Int), .int .i64 ((dec ds x).2.2 : Int)] 67)
        have hBx : Box (w2.alloc (.cells #[.int .i64 ((dec ds x).1 : Int), .int .i64 ((dec ds x).2.1 : Int), .int .i64 ((dec ds x).2.2 : Int)] 67)) w2.heap.size (dec ds x) := heap_alloc_new _ _
        have np : w2.heap.size ≠ p := by have := lt_of_get hA2.blk; omega
        have nm : w2.heap.size ≠ m := by have := lt_of_get hA2.map; omega
        have ns : sv.ownBlock ≠ some w2.heap.size := by intro e; have := (hA2.row.lt _ e).2; omega
        generalize w2.heap.size = bx at hBx np nm ns ⊢
        generalize (w2.alloc (.cells #[.int .i64 ((dec ds x).1 : Int), .int .i64 ((dec ds x).2.1 : Int), .int .i64 ((dec ds x).2.2 : Int)] 67)) = W at hbW hAW hBx ⊢
        have F0 := Fr.of_below hbW.drew p m sv
        have hpow : 2 ^ ((dec ds x).1 + 1) ≤ 2 ^ k := Nat.pow_le_pow_right (by omega) (by omega)
        have hpow2 : 2 ^ ((dec ds x).1 + 1) = 2 ^ (dec ds x).1 + 2 ^ (dec ds x).1 := by rw [Nat.pow_succ]; omega
        have hone : 1 ≤ 2 ^ (dec ds x).1 := Nat.one_le_two_pow
        have hfew1 : ds.length + 2 ^ (dec ds x).1 ≤ 100000 := by have := HF.out; omega
        have c1 := IH.out (dec ds x).1 dt W.drew sv ds (dec ds x).2.1 hAW.drew (by omega) l3 (by omega) hfew1
        have C1 := Lib.hid c1
        have c2 : ∀ (w4 : World) (sv1 : Value) (ds1 : List Dec) (r1 : Nat), Made vars ds ds1 r1 (fun a => S ds (dec ds x).2.1 (upd a i to)) (dec ds x).1 → Ar w4 B p m sv1 vars ds1 →
            Calls Try.prog 38 #[.pointer (some ⟨p, 0, none⟩), .int .i64 ((dec ds x).2.2 : Int), .int .i64 (i : Int), .bool to] w4 (Makes w4 B p m sv1 vars ds1 (fun a => S ds (dec ds x).2.2 (upd a i to)) (dec ds x).1) := by
          intro w4 sv1 ds1 r1 M1 hA4
          obtain ⟨u1, u2, u3⟩ := M1.old h.wf (n := (dec ds x).2.2) (by omega)
          refine (IH.out (dec ds x).1 dt w4 sv1 ds1 (dec ds x).2.2 hA4 u1 (by omega) (by omega) (by have := HF.out; have := M1.few; omega)).mono ?_
          rintro e w5 ⟨r2, ds2, M2, G2⟩
          exact ⟨r2, ds2, M2.congr fun a => u3 _, G2⟩
        have C2 := Lib.hid c2
        have c3 : ∀ (w5 : World) (sv2 : Value) (ds1 ds2 : List Dec) (r1 r2 : Nat), Made vars ds ds1 r1 (fun a => S ds (dec ds x).2.1 (upd a i to)) (dec ds x).1 → Made vars ds1 ds2 r2 (fun a => S ds (dec ds x).2.2 (upd a i to)) (dec ds x).1 → Ar w5 B p m sv2 vars ds2 →
            Calls Try.prog 37 #[.pointer (some ⟨p, 0, none⟩), .agg #[.int .i64 ((dec ds x).1 : Int), .int .i64 (r1 : Int), .int .i64 (r2 : Int)]] w5
              (fun e w6 => ∃ r ds', Made vars ds ds' r (fun a => S ds x (upd a i to)) k ∧ Gives w5 B p m sv2 vars r ds' e w6) := by
          intro w5 sv2 ds1 ds2 r1 r2 M1 M2 hA5
          obtain ⟨J, j1, j2⟩ := made_join M1 M2 l5
          refine (decide_any hA5 ((dec ds x).1, r1, r2) l5 j1 M2.lt j2 M2.top (by have := HF.out; have := M1.few; have := M2.few; omega)).mono ?_
          intro e w6 G
          refine ⟨_, _, (J.mono (by omega)).congr fun a => ?_, G⟩
          rw [S_ge2 h.wf h2 hx, upd_other a to HNI.out]
          split <;> rfl
        have C3 := Lib.hid c3
        have HP := Lib.hid hpow2
        have b0 := hBx.c0
        have b1 := hBx.c1
        have b2 := hBx.c2
        clear c1 c2 c3 hpow2
        go_region_held3 (fun w' => w'.cell? ⟨bx, 0, none⟩ = some (.int .i64 ((dec ds x).1 : Int)) ∧ w'.cell? ⟨bx, 1, none⟩ = some (.int .i64 ((dec ds x).2.1 : Int)) ∧ w'.cell? ⟨bx, 2, none⟩ = some (.int .i64 ((dec ds x).2.2 : Int))) (first | exact ⟨b0, b1, b2⟩ | exact ⟨hB4.c0, hB4.c1, hB4.c2⟩ | exact ⟨hB5.c0, hB5.c1, hB5.c2⟩ | exact ⟨hB6.c0, hB6.c1, hB6.c2⟩)
          (first
            | (go_at_call 38; (with_reducible refine (C1.out).mono ?_); rintro e w4 ⟨r1, ds1, M1, rfl, sv1, hA4, F4⟩; have hB4 := hBx.drew.fr F4 np nm ns)
            | (go_at_call 38; (with_reducible refine (C2.out w4 sv1 ds1 r1 M1 hA4).mono ?_); rintro e w5 ⟨r2, ds2, M2, rfl, sv2, hA5, F5⟩; have hB5 := hB4.fr F5 np nm (fr_own F4 (lt_of_get hBx) ns))
            | (go_at_call 37; (with_reducible refine (C3.out w5 sv2 ds1 ds2 r1 r2 M1 M2 hA5).mono ?_); rintro e w6 ⟨r3, ds3, M3, rfl, sv3, hA6, F6⟩; have hB6 := hB5.fr F6 np nm (fr_own (F4.trans F5) (lt_of_get hBx) ns)))
        go_wp2_with fail
        go_ret
        exact ⟨r3, ds3, M3, rfl, sv3, hA6, ((F0.trans F4).trans F5).trans F6⟩
end
end Go.Proofs.Ythhcahojbgcihaa
