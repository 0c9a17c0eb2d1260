/- What is proved: what the small functions of package bdd come to. -/
import Derived.Test.YthhcahojbgcihaaMem
import Derived.Deep.QuietTactic
import Derived.BigQuiet
import Derived.RegionTactic
namespace Go.Proofs.Ythhcahojbgcihaa
open Go.RowKit Bd

section
variable {w : World} {B p m vars : Nat} {sv : Value} {ds : List Dec}

set_option maxHeartbeats 400000 in
theorem vars_any (h : Ar w B p m sv vars ds) : Calls Try.prog 29 #[.pointer (some ⟨p, 0, none⟩)] w fun e w' => e = .returned (.int .i64 (vars : Int)) ∧ w = w' := by
  have c0 := h.c0
  go_enter Try.func29, Try.ntmps29
  go_wp2
  go_ret
  exact ⟨rfl, rfl⟩

set_option maxHeartbeats 400000 in
theorem hasName_any (h : Ar w B p m sv vars ds) (i : Int) : Calls Try.prog 36 #[.pointer (some ⟨p, 0, none⟩), .int .i64 i] w fun e w' => e = .returned (.bool (decide (0 ≤ i ∧ i < vars))) ∧ w = w' := by
  by_cases h0 : 0 ≤ i
  · go_enter Try.func36, Try.ntmps36
    go_wp2_with (go_at_call 29; refine (vars_any h).mono ?_; rintro e w' ⟨rfl, rfl⟩)
    go_ret
    exact ⟨by simp [h0], rfl⟩
  · go_enter Try.func36, Try.ntmps36
    go_wp2_with fail
    go_ret
    exact ⟨by simp; omega, rfl⟩

set_option maxHeartbeats 400000 in
theorem settled_any (b : Bool) (w : World) : Calls Try.prog 51 #[.bool b] w fun e w' => e = .returned (.int .i64 (if b then 1 else 0)) ∧ w = w' := by
  cases b
  all_goals
    go_enter Try.func51, Try.ntmps51
    go_wp2
    go_ret
    exact ⟨rfl, rfl⟩

set_option maxHeartbeats 400000 in
theorem side_any (a b c : Int) (t : Bool) (w : World) : Calls Try.prog 33 #[.agg #[.int .i64 a, .int .i64 b, .int .i64 c], .bool t] w fun e w' => e = .returned (.int .i64 (if t then c else b)) ∧ Below w.heap.size w w' := by
  cases t
  all_goals
    go_enter Try.func33, Try.ntmps33
    go_wp2
    go_ret
    exact ⟨rfl, (Below.refl _ _).alloc (Nat.le_refl _) _⟩

set_option maxHeartbeats 400000 in
theorem decision_any (h : Ar w B p m sv vars ds) (n : Nat) (h2 : 2 ≤ n) (hn : n < ds.length + 2) :
    Calls Try.prog 32 #[.pointer (some ⟨p, 0, none⟩), .int .i64 (n : Int)] w fun e w' => e = .returned (keyOf (dec ds n)) ∧ Below w.heap.size w w' := by
  have hf := h.few
  have c1 := h.c1
  have hpl : p < w.heap.size := lt_of_get h.blk
  obtain ⟨i, rfl⟩ : ∃ i, n = i + 2 := ⟨n - 2, by omega⟩
  obtain ⟨g, cap, rfl, hg, hcap, hc⟩ := h.slice (by omega)
  obtain ⟨a1, a2, a3⟩ := hc i (by omega)
  clear hc
  go_enter Try.func32, Try.ntmps32
  go_wp2
  refine bodyPost_ret (v := keyOf (dec ds (i + 2))) (by simp [results, Try.results32, go_sem, keyOf]) rfl ⟨rfl, ?_⟩
  exact (Below.refl _ _).alloc (Nat.le_refl _) _

/-- A row of conditions in one block. -/
def Nodes (w : World) (b n : Nat) (f : Nat → Int) : Prop := b < w.heap.size ∧ ∀ i, i < n → w.cell? ⟨b, i, none⟩ = some (.int .i64 (f i))

theorem Nodes.below {w' : World} {b n : Nat} {f : Nat → Int} (h : Nodes w b n f) (hb : Below w.heap.size w w') : Nodes w' b n f :=
  ⟨Nat.lt_of_lt_of_le h.1 hb.size, fun i hi => (hb.cell (p := ⟨b, i, none⟩) h.1).trans (h.2 i hi)⟩

theorem Ar.form (h : Ar w B p m sv vars ds) : ∃ A c, sv = .slice A ds.length c := by
  rcases h.row.2 with ⟨e, e0⟩ | ⟨g, cap, cur, e, _⟩
  · exact ⟨none, 0, by rw [e, e0]⟩
  · exact ⟨_, _, e⟩

set_option maxHeartbeats 400000 in
theorem knows_yes (h : Ar w B p m sv vars ds) (b cap n : Nat) (f : Nat → Int) (hl : n ≤ 3) (hx : Nodes w b n f) (hy : ∀ i, i < n → 0 ≤ f i ∧ f i < 2 + (ds.length : Int)) :
    Calls Try.prog 31 #[.pointer (some ⟨p, 0, none⟩), .slice (some ⟨b, 0, none⟩) n cap] w fun e w' => e = .returned (.bool true) ∧ w = w' := by
  have hf := h.few
  have c1 := h.c1
  obtain ⟨A, c, rfl⟩ := h.form
  have HX := Lib.hid hx
  have HY := Lib.hid hy
  clear hx hy
  go_enter Try.func31, Try.ntmps31
  go_wp2
  go_loop [7, 19] (fun _ i => ∃ k : Nat, k ≤ n ∧ i = .int .i64 k) (fun _ i => n - (intOf i).toNat)
  case atStart => exact ⟨0, Nat.zero_le _, rfl⟩
  case round =>
    obtain ⟨k, hk, rfl⟩ := hrel
    by_cases hlt : k < n
    · have hc := HX.out.2 k hlt
      obtain ⟨y1, y2⟩ := HY.out k hlt
      go_wp2
      go_round
      case rel => exact ⟨k + 1, by omega, by go_num⟩
      case measure => simp [intOf]; omega
    · go_wp2
      go_ret
      exact ⟨rfl, rfl⟩

set_option maxHeartbeats 400000 in
theorem knows_no (h : Ar w B p m sv vars ds) (b cap n : Nat) (f : Nat → Int) (hl : n ≤ 3) (hx : Nodes w b n f) (j : Nat) (hj : j < n) (hno : f j < 0) :
    Calls Try.prog 31 #[.pointer (some ⟨p, 0, none⟩), .slice (some ⟨b, 0, none⟩) n cap] w fun e w' => e = .returned (.bool false) ∧ w = w' := by
  have hf := h.few
  have c1 := h.c1
  obtain ⟨A, c, rfl⟩ := h.form
  have HX := Lib.hid hx
  clear hx
  go_enter Try.func31, Try.ntmps31
  go_wp2
  go_loop [7, 19] (fun _ i => ∃ k : Nat, k ≤ j ∧ i = .int .i64 k) (fun _ i => n - (intOf i).toNat)
  case atStart => exact ⟨0, Nat.zero_le _, rfl⟩
  case round =>
    obtain ⟨k, hk, rfl⟩ := hrel
    have hlt : k < n := by omega
    have hc := HX.out.2 k hlt
    by_cases y1 : f k < 0
    · go_wp2
      go_ret
      exact ⟨rfl, rfl⟩
    · have hkj : k < j := by
        rcases Nat.lt_or_ge k j with h1 | h1
        · exact h1
        · obtain rfl : k = j := by omega
          omega
      by_cases y2 : f k < 2 + (ds.length : Int)
      · go_wp2
        go_round
        case rel => exact ⟨k + 1, by omega, by go_num⟩
        case measure => simp [intOf]; omega
      · go_wp2
        go_ret
        exact ⟨rfl, rfl⟩

theorem run_field67a (a b c : Int) (w : World) : (Instr.field 67 (.agg #[.int .i64 a, .int .i64 b, .int .i64 c]) 0).run Try.prog w = .ok (.int .i64 a) w := by kernel_rfl

def tops (ds : List Dec) (f : Nat → Nat) : Nat → Nat
  | 0 => 0
  | k + 1 => max (tops ds f k) (top ds (f k))

theorem tops_le (h : WF vars ds) (f : Nat → Nat) : ∀ n, (∀ i, i < n → f i < ds.length + 2) → tops ds f n ≤ vars := by
  intro n
  induction n with
  | zero => intro _; simp [tops]
  | succ n ih =>
    intro hf
    have h1 := ih fun i hi => hf i (by omega)
    have h2 := top_le h (hf n (by omega))
    simp only [tops]; omega

set_option maxHeartbeats 400000 in
theorem top_any (h : Ar w B p m sv vars ds) (b cap n : Nat) (f : Nat → Nat) (hl : n ≤ 3) (hx : Nodes w b n (fun i => (f i : Int))) (hy : ∀ i, i < n → f i < ds.length + 2) :
    Calls Try.prog 48 #[.pointer (some ⟨p, 0, none⟩), .slice (some ⟨b, 0, none⟩) n cap] w fun e w' => e = .returned (.int .i64 ((tops ds f n : Int) - 1)) ∧ Below w.heap.size w w' := by
  have hf := h.few
  have HX := Lib.hid hx
  have HY := Lib.hid hy
  clear hx hy
  go_enter Try.func48, Try.ntmps48
  go_wp2
  go_loopw [5, 7, 10] (fun t _ i wr => ∃ k : Nat, k ≤ n ∧ i = .int .i64 k ∧ t = .int .i64 ((tops ds f k : Int) - 1) ∧ Below w.heap.size w wr) (fun _ _ i _ => n - (intOf i).toNat)
  case atStart => exact ⟨0, Nat.zero_le _, rfl, rfl, Below.refl _ _⟩
  case round =>
    obtain ⟨k, hk, rfl, rfl, hb⟩ := hrel
    by_cases hlt : k < n
    · have hc := (HX.out.below hb).2 k hlt
      have hv := HY.out k hlt
      have hA := h.below hb
      have ht := tops_le h.wf f k fun i hi => HY.out i (by omega)
      have ht1 := top_le h.wf hv
      have hv8 := h.v8
      have HS : Hid (tops ds f (k + 1) = max (tops ds f k) (top ds (f k))) := rfl
      by_cases h2 : 2 ≤ f k
      · have hd : (dec ds (f k)).1 < vars := h.wf.name _ h2 hv
        have HT : Hid (top ds (f k) = (dec ds (f k)).1 + 1) := if_neg (by omega)
        have h2' : (2 : Int) ≤ (f k : Int) := by omega
        have hfld := run_field67a
        go_wp2_with (go_at_call 32; refine (decision_any hA (f k) h2 hv).mono ?_; rintro e w' ⟨rfl, hb1⟩; unfold keyOf)
        all_goals
          go_roundw
          case rel => exact ⟨k + 1, by omega, by go_num, by rw [HS.out, HT.out]; congr 1; omega, hb.trans (hb1.mono hb.size)⟩
          case measure => simp [intOf]; omega
      · have HT : Hid (top ds (f k) = 0) := if_pos (by omega)
        have h2' : (f k : Int) < 2 := by omega
        go_wp2_with fail
        go_roundw
        case rel => exact ⟨k + 1, by omega, by go_num, by rw [HS.out, HT.out, Nat.max_zero], hb⟩
        case measure => simp [intOf]; omega
    · obtain rfl : k = n := by omega
      go_wp2_with fail
      go_ret
      exact ⟨rfl, hb⟩
end
end Go.Proofs.Ythhcahojbgcihaa
