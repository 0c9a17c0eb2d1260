/- What is proved: what the document's own Print, and tell of tokens. -/
import Derived.Test.YtfjbmenakcnadaaDoorP1
namespace Go.Proofs.YtfjbmenakcnadaaDoor
open Go.RowKit Go.Shelf
open Lx (T)

theorem add_to (a b c : List UInt8) (h : a.length + b.length ≤ 100000000000) (hc : c = a ++ b) (w : World) : (Op.stringOp .add ⟨a.toArray⟩ ⟨b.toArray⟩).run Tryd.prog w = .ok (.string ⟨c.toArray⟩) w := by
  rw [hc]; exact add_run a b h w

/-- What a fold over tokens prints, one behind the other, each with a byte ahead or not. -/
def prW (w : T → List UInt8) (ts : List T) : List UInt8 := ts.flatMap fun t => w t ++ t.text
theorem prW_take_succ (w : T → List UInt8) (ts : List T) (k : Nat) (t : T) (h : ts[k]? = some t) : prW w (ts.take (k + 1)) = prW w (ts.take k) ++ (w t ++ t.text) := by
  obtain ⟨hk, e⟩ := List.getElem?_eq_some_iff.1 h
  rw [List.take_succ_eq_append_getElem hk, e]
  simp [prW]
theorem prW_take_le (w : T → List UInt8) (ts : List T) (k : Nat) : (prW w (ts.take k)).length ≤ (prW w ts).length := by
  have e : prW w ts = prW w (ts.take k) ++ prW w (ts.drop k) := by
    unfold prW
    rw [← List.flatMap_append, List.take_append_drop]
  rw [e]; simp
def spW (t : T) : List UInt8 := if t.bl then [32] else []
def usW (t : T) : List UInt8 := if t.bl then [32] else [95]
theorem pr_prW (ts : List T) : Lx.pr ts = prW spW ts := by
  unfold Lx.pr Lx.prA prW
  rw [List.flatMap_map]
  rfl

set_option maxRecDepth 100000 in
set_option maxHeartbeats 4000000 in
theorem rprint_any (v : Value) (f : Int) (ts : List T) (w : World) (hv : Toks w v f ts) (hl : ts.length ≤ 1000000000) (hp : (Lx.pr ts).length ≤ 1000000000) :
    Calls Tryd.prog 42 #[v] w fun e w' => e = .returned (.string ⟨(Lx.pr ts).toArray⟩) ∧ w = w' := by
  obtain ⟨ad, cap, rfl, -⟩ := id hv
  rw [pr_prW] at hp ⊢
  rcases Nat.eq_zero_or_pos ts.length with h0 | hpos
  · obtain rfl : ts = [] := List.length_eq_zero_iff.1 h0
    clear hv
    go_enter Tryd.func42, Tryd.ntmps42
    go_wp2_with fail
    go_loop [3, 4] (fun s i => s = .string ⟨#[]⟩ ∧ i = .int .i64 0) (fun _ _ => 0)
    case atStart => exact ⟨rfl, rfl⟩
    case round =>
      obtain ⟨rfl, rfl⟩ := hrel
      go_wp2_with fail
      go_ret
      exact ⟨rfl, rfl⟩
  · obtain ⟨g, o, rfl, -, hcap, hmax, hg, hc⟩ := hv.cells hpos
    unfold maxLen at hmax
    obtain ⟨n, hn⟩ : ∃ n, n = ts.length := ⟨_, rfl⟩
    rw [← hn] at hl hcap hpos
    rw [← hn]
    obtain ⟨X, hX⟩ : ∃ X, X = prW spW ts := ⟨_, rfl⟩
    rw [← hX] at hp ⊢
    have HXx := Lib.hid hX
    have Hn := Lib.hid hn
    have HC := Lib.hid hc
    clear hn hc hv hX
    go_enter Tryd.func42, Tryd.ntmps42
    go_wp2_with fail
    go_loop [3, 4] (fun s i => ∃ (k : Nat) (A : List UInt8), i = .int .i64 k ∧ k ≤ n ∧ s = .string ⟨A.toArray⟩ ∧ A = prW spW (ts.take k)) (fun _ i => n - (intOf i).toNat)
    case atStart => exact ⟨0, [], rfl, Nat.zero_le _, rfl, rfl⟩
    case round =>
      obtain ⟨k, A, rfl, hk, rfl, hA⟩ := hrel
      by_cases hlt : k < n
      · obtain ⟨t, ht⟩ : ∃ t, ts[k]? = some t := ⟨_, List.getElem?_eq_getElem (by rw [← Hn.out]; exact hlt)⟩
        obtain ⟨d0, d1, d2, d3, d4, d5⟩ := HC.out k t ht
        have hst := prW_take_succ spW ts k t ht
        have hle := prW_take_le spW ts (k + 1)
        rw [← HXx.out, hst] at hle
        rw [← hA] at hst hle
        simp only [List.length_append] at hle
        obtain ⟨tx, htx⟩ : ∃ tx, tx = t.text := ⟨_, rfl⟩
        rw [← htx] at d1 hst hle
        cases hbl : t.bl with
        | true =>
          have hsw : spW t = [32] := by unfold spW; rw [hbl]; rfl
          rw [hbl] at d5
          rw [hsw] at hst hle
          obtain ⟨B, hB⟩ : ∃ B, B = A ++ [32] := ⟨_, rfl⟩
          obtain ⟨C, hC⟩ : ∃ C, C = B ++ tx := ⟨_, rfl⟩
          have hle2 : A.length + (1 + tx.length) ≤ 1000000000 := by simp at hle; omega
          have a1 : ∀ W, (Op.stringOp .add ⟨A.toArray⟩ ⟨#[32]⟩).run Tryd.prog W = .ok (.string ⟨B.toArray⟩) W := fun W => add_to A [32] B (by simp; omega) hB W
          have a2 : ∀ W, (Op.stringOp .add ⟨B.toArray⟩ ⟨tx.toArray⟩).run Tryd.prog W = .ok (.string ⟨C.toArray⟩) W := fun W => add_to B tx C (by rw [hB]; simp; omega) hC W
          have HS := Lib.hid (show C = prW spW (ts.take (k + 1)) by rw [hst, hC, hB]; simp)
          clear ht hst hA htx hle hbl hsw hB hC hle2
          go_wp2_with fail
          go_round
          case rel => exact ⟨k + 1, C, by go_num, by omega, rfl, HS.out⟩
          case measure => simp [intOf]; omega
        | false =>
          have hsw : spW t = [] := by unfold spW; rw [hbl]; rfl
          rw [hbl] at d5
          rw [hsw] at hst hle
          obtain ⟨C, hC⟩ : ∃ C, C = A ++ tx := ⟨_, rfl⟩
          have hle2 : A.length + tx.length ≤ 1000000000 := by simp at hle; omega
          have a2 : ∀ W, (Op.stringOp .add ⟨A.toArray⟩ ⟨tx.toArray⟩).run Tryd.prog W = .ok (.string ⟨C.toArray⟩) W := fun W => add_to A tx C (by omega) hC W
          have HS := Lib.hid (show C = prW spW (ts.take (k + 1)) by rw [hst, hC]; simp)
          clear ht hst hA htx hle hbl hsw hC hle2
          go_wp2_with fail
          go_round
          case rel => exact ⟨k + 1, C, by go_num, by omega, rfl, HS.out⟩
          case measure => simp [intOf]; omega
      · have he : A = X := by rw [hA, HXx.out, List.take_of_length_le (by rw [← Hn.out]; omega)]
        subst he
        clear hA
        go_wp2_with fail
        go_ret
        exact ⟨rfl, rfl⟩

end Go.Proofs.YtfjbmenakcnadaaDoor
