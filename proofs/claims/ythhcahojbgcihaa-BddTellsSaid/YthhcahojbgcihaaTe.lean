/- What is proved: the law BddTells answers true, whatever the names and the ops. -/
import Derived.Test.YthhcahojbgcihaaTe0
namespace Go.Proofs.Ythhcahojbgcihaa
open Go.RowKit Bd

/-- The least set, or none, in one form. -/
def SatS (g : (Nat → Bool) → Bool) (vars s : Nat) (is : Bool) : Prop := (is = true ∧ LeastIs g vars s) ∨ (is = false ∧ s = 0 ∧ ∀ a, g a = false)
def SatSays (w : World) (g : (Nat → Bool) → Bool) (vars : Nat) (e : Ending) (w' : World) : Prop := ∃ (s : Nat) (is : Bool), SatS g vars s is ∧ e = .returned (.tuple #[.int .i64 (s : Int), .bool is, .int .i64 0]) ∧ Below w.heap.size w w'

theorem satS {w : World} {B p m vars : Nat} {sv : Value} {ds : List Dec} (h : Ar w B p m sv vars ds) {x : Nat} {g : (Nat → Bool) → Bool} (hx : Has ds x g) :
    Calls Try.prog 13 #[.pointer (some ⟨p, 0, none⟩), .int .i64 (x : Int)] w (SatSays w g vars) := by
  refine (satH h hx).mono fun e w' hh => ?_
  rcases hh with ⟨s, h1, h2, h3⟩ | ⟨h1, h2, h3⟩
  · exact ⟨s, true, .inl ⟨rfl, h1⟩, h2, h3⟩
  · exact ⟨0, false, .inr ⟨rfl, rfl, h1⟩, h2, h3⟩

theorem sat_both {g : (Nat → Bool) → Bool} {vars s : Nat} {is : Bool} {e : Ending} (h : SatS g vars s is)
    (hf : (∃ t : Nat, t < 2 ^ vars ∧ g (Bd.bits t) = true ∧ (∀ q, q < t → g (Bd.bits q) = false) ∧ e = .returned (.tuple #[.int .i64 (t : Int), .bool true])) ∨ ((∀ q, q < 2 ^ vars → g (Bd.bits q) = false) ∧ e = .returned (.tuple #[.int .i64 0, .bool false]))) :
    e = .returned (.tuple #[.int .i64 (s : Int), .bool is]) := by
  rcases h with ⟨rfl, h⟩ | ⟨rfl, rfl, h⟩
  · rcases hf with ⟨t, _, h1, h2, rfl⟩ | ⟨h1, _⟩
    · rw [sat_agrees h h1 h2]
    · have := h1 s h.1
      rw [h.2.1] at this
      cases this
  · rcases hf with ⟨t, _, h1, _⟩ | ⟨_, rfl⟩
    · rw [h] at h1; cases h1
    · rfl

set_option maxHeartbeats 8000000 in
set_option maxRecDepth 100000 in
theorem tells_any (v : Int) (Ad : Option Addr) (k cap : Nat) (F : Nat → OpV) (w : World) (hO : OpsAt w Ad k F) :
    Calls Try.prog 4 #[.int .i64 v, .slice Ad k cap] w fun e w' => e = .returned (.bool true) ∧ Below w.heap.size w w' := by
  have HO := Lib.hid hO
  clear hO
  go_enter Try.func4, Try.ntmps4
  go_wp2_with fail
  refine (awake_any w).mono ?_
  rintro e w1 ⟨rfl, hb1⟩
  go_wp2_with fail
  refine (built_any v Ad k cap F w1 (HO.out.below hb1)).mono ?_
  rintro e w2 (⟨hv, rfl, hb2⟩ | ⟨vars, q, p, m, i, rfl, hi, ⟨sv, lv, tv, ds, n, X, T, G, hD, hn, hds, hb2⟩, rfl⟩)
  · clear hv
    go_wp2_with fail
    go_ret
    exact ⟨rfl, hb1.trans (hb2.mono hb1.size)⟩
  obtain ⟨bl, cl, bt, ct, rfl, rfl, hbl, hbt⟩ := hD.forms
  have n2 := hD.two
  have v8 := hD.ar.v8
  have hp8 := pow8 v8
  have hp0 := Nat.two_pow_pos vars
  have hql := lt_of_get hD.blk
  have hcl : n ≤ cl := by
    rcases hD.lrow.2 with ⟨e, _⟩ | ⟨_, _, _, e, _, _, hc, _⟩
    · cases e
    · injection e with _ _ e; omega
  have hct : n ≤ ct := by
    rcases hD.trow.2 with ⟨e, _⟩ | ⟨_, _, _, e, _, _, hc, _⟩
    · cases e
    · injection e with _ _ e; omega
  have HD := Lib.hid hD
  clear hD
  go_wp2_with fail
  go_loopw [8, 9, 10, 11, 12, 13, 14, 15, 16, 17] (fun i' _ _ _ _ _ _ _ _ _ wr => ∃ j : Nat, j ≤ n ∧ i' = .int .i64 (j : Int) ∧ Below w2.heap.size w2 wr) (fun i' _ _ _ _ _ _ _ _ _ _ => n - (intOf i').toNat)
  case atStart => exact ⟨0, Nat.zero_le _, rfl, Below.refl _ _⟩
  case round =>
    obtain ⟨j, hj, rfl, hbr⟩ := hrel
    have hDr := HD.out.below hbr
    have z2 := hDr.c2
    by_cases hlt : j < n
    · have hlt' : (j : Int) < (n : Int) := by omega
      have hHas := hDr.has j hlt
      have hTab := hDr.tab j hlt
      have z0 := hDr.c0
      have zl := hDr.lcell hlt
      go_wp2_with fail
      go_region_held3 (fun w' => w'.cell? ⟨q, 0, none⟩ = some (.pointer (some ⟨p, 0, none⟩)) ∧ w'.cell? ⟨q, 2, none⟩ = some (.slice (some ⟨bl, 0, none⟩) n cl) ∧ w'.cell? ⟨bl, j, none⟩ = some (.int .i64 (X j : Int))) (first | exact ⟨z0, z2, zl⟩ | exact ⟨hD3.c0, hD3.c2, hD3.lcell hlt⟩)
        (first
          | (go_at_call 13; (with_reducible refine (satS hDr.drew.ar hHas).mono ?_); rintro e W3 ⟨st, is, hst, rfl, hb3⟩; have hD3 := hDr.drew.below hb3))
      clear z0 z2 zl
      have z3 := hD3.c3
      have zt := hD3.tcell hlt
      have y0 := hD3.c0
      have y2 := hD3.c2
      have yl := hD3.lcell hlt
      go_wp2_with fail
      refine (satT (2 ^ vars) hp0 hp8 _ (hD3.tab j hlt)).mono ?_
      rintro e W4 ⟨hfi, rfl⟩
      obtain rfl : e = .returned (.tuple #[.int .i64 (st : Int), .bool is]) := sat_both hst hfi
      go_wp2_with fail
      go_region_held3 (fun w' => w'.cell? ⟨q, 0, none⟩ = some (.pointer (some ⟨p, 0, none⟩)) ∧ w'.cell? ⟨q, 2, none⟩ = some (.slice (some ⟨bl, 0, none⟩) n cl) ∧ w'.cell? ⟨bl, j, none⟩ = some (.int .i64 (X j : Int))) (first | exact ⟨y0, y2, yl⟩ | exact ⟨hD5.c0, hD5.c2, hD5.lcell hlt⟩)
        (first
          | (go_at_call 15; (with_reducible refine (countH hD3.drew.ar hHas).mono ?_); rintro e W5 ⟨rfl, hb5⟩; have hD5 := hD3.drew.below hb5))
      clear y0 y2 yl z3 zt
      have y0 := hD5.c0
      have y2 := hD5.c2
      have yl := hD5.lcell hlt
      go_wp2_with fail
      go_region_held3 (fun w' => w'.cell? ⟨q, 0, none⟩ = some (.pointer (some ⟨p, 0, none⟩)) ∧ w'.cell? ⟨q, 2, none⟩ = some (.slice (some ⟨bl, 0, none⟩) n cl) ∧ w'.cell? ⟨bl, j, none⟩ = some (.int .i64 (X j : Int))) (first | exact ⟨y0, y2, yl⟩ | exact ⟨hD6.c0, hD6.c2, hD6.lcell hlt⟩)
        (first
          | (go_at_call 16; (with_reducible refine (onlyH hD5.drew.ar hHas).mono ?_); rintro e W6 ⟨A, hA, rfl, hb6⟩; have hD6 := hD5.drew.below hb6))
      clear y0 y2 yl
      have z3 := hD6.c3
      have zt := hD6.tcell hlt
      go_wp2_with fail
      refine (countT (2 ^ vars) hp0 hp8 _ (hD6.tab j hlt)).mono ?_
      rintro e W7 ⟨rfl, rfl⟩
      have ec : (List.range (2 ^ vars)).countP (fun s => G j (Bd.bits s)) = cntG (G j) vars := rfl
      rw [ec]
      clear ec
      go_wp2_with fail
      refine (onlyT vars v8 _ (hD6.tab j hlt)).mono ?_
      rintro e W8 ⟨A', hA', rfl, hb8⟩
      obtain rfl : A = A' := only_agrees hDr.ar.wf hHas hA hA'
      clear z3 zt
      go_wp2_with fail
      have hbT : Below w2.heap.size w2 W8 := by
        have t1 := hbr.drew.trans (hb3.mono hbr.size)
        have t2 := t1.drew.trans (hb5.mono t1.size)
        have t3 := t2.drew.trans (hb6.mono t2.size)
        exact t3.trans (hb8.mono t3.size)
      go_roundw
      case rel => exact ⟨j + 1, by omega, by go_num, hbT⟩
      case measure => simp [intOf]; omega
    · go_wp2_with fail
      go_ret
      exact ⟨rfl, hb1.trans ((hb2.trans (hbr.mono hb2.size)).mono hb1.size)⟩
end Go.Proofs.Ythhcahojbgcihaa
