/- What is proved: what Kind and Word, and the document's own Kind, tell of any word and any number. -/
import Derived.Test.YtnkheejpmkflaaaDoorDx
import Derived.Test.YtnkheejpmkflaaaDoorR1
namespace Go.Proofs.YtnkheejpmkflaaaDoor
open Go.RowKit Go.Shelf

theorem idx_word (A : Array Value) (v : Value) (k : Nat) (hA : A[k]? = some v) (hk : (k : Int) < 12) (W : World) : (Instr.index 57 (.agg A) (.int .i64 k)).run Tryd.prog W = .ok v W := by
  simp [Instr.index, run_underlying Tryd.underlying57, asIntOf, part, Tryd.isAgg9, Tryd.sizeOf9, hA, go_sem]
  intro h
  omega

set_option maxHeartbeats 4000000 in
set_option maxRecDepth 100000 in
theorem kind_any (x : ByteArray) (w : World) (hG : Glob w) : Calls Tryd.prog 15 #[.string x] w fun e w' => e = .returned (.int .i64 (Dx.kindOf x)) ∧ w = w' := by
  obtain ⟨_, _, tt, fz, hblk⟩ := hG
  have HW := Lib.hid Dx.word_cell
  have hsz : (Tryd.prog.info? 57).map (·.size) = some wordCells.size := by kernel_rfl
  obtain ⟨A, hA⟩ : ∃ A, A = wordCells := ⟨_, rfl⟩
  rw [← hA] at hblk hsz
  have HA := Lib.hid hA
  obtain ⟨R, hR⟩ : ∃ R, R = Dx.kindOf x := ⟨_, rfl⟩
  rw [← hR]
  have HR := Lib.hid hR
  clear hA hR
  go_enter Tryd.func15, Tryd.ntmps15
  go_wp2_with (with_reducible refine wpList_load_row rfl 57 _ rfl 0 rfl tt A fz (.array 12 9) hblk Tryd.underlying57 rfl hsz ?_)
  go_loop [6] (fun i => ∃ k : Nat, i = .int .i64 k ∧ k ≤ 12 ∧ Dx.noneTo x k) (fun i => 12 - (intOf i).toNat)
  case atStart => exact ⟨0, rfl, by omega, Dx.noneTo_zero x⟩
  case round =>
    obtain ⟨k, rfl, hk, hno⟩ := hrel
    have HN := Lib.hid hno
    clear hno hblk hsz
    by_cases hlt : k < 12
    · obtain ⟨S, hS⟩ : ∃ S : ByteArray, S = Dx.wordAt k := ⟨_, rfl⟩
      have hck := HW.out k hlt
      rw [← hS, ← HA.out] at hck
      have hkz : (k : Int) < 12 := by omega
      have hidx := idx_word A (.string S) k hck hkz
      have HS := Lib.hid hS
      clear hS hck
      by_cases hx : S = x
      · have t1 : (S.toList == x.toList) = true := by rw [ba_beq]; simpa using hx
        have HX := Lib.hid hx
        clear hx
        go_wp2_with fail
        go_ret
        refine ⟨ret_int ?_, rfl⟩
        rw [HR.out, ← HX.out, HS.out, Dx.kind_hit k hlt]
        omega
      · have t1 : (S.toList == x.toList) = false := by rw [ba_beq]; simpa using hx
        have HX := Lib.hid hx
        clear hx
        go_wp2_with fail
        go_round
        case rel => exact ⟨k + 1, by go_num, by omega, Dx.noneTo_succ HN.out (fun e => HX.out (by rw [HS.out, e]))⟩
        case measure => simp [intOf]; omega
    · have hk : k = 12 := by omega
      subst hk
      go_wp2_with fail
      go_ret
      exact ⟨ret_int (by rw [HR.out, Dx.kind_miss x HN.out]), rfl⟩

set_option maxHeartbeats 4000000 in
set_option maxRecDepth 100000 in
theorem dword_any (k : Int) (w : World) (hG : Glob w) : Calls Tryd.prog 16 #[.int .i64 k] w fun e w' => e = .returned (.string (Dx.wordOf k)) ∧ w = w' := by
  obtain ⟨_, _, tt, fz, hblk⟩ := hG
  by_cases h : 2 ≤ k ∧ k ≤ 13
  · obtain ⟨m, hm⟩ : ∃ m : Nat, k = (m : Int) + 2 := ⟨(k - 2).toNat, by omega⟩
    subst hm
    have hm : m < 12 := by omega
    have hc : w.cell? ⟨0, m, none⟩ = some (.string (Dx.wordAt m)) := by rw [Lib.cell_of_heap hblk]; exact Dx.word_cell m hm
    rw [Dx.word_of m hm]
    have e1 : IntKind.i64.wrap ((m : Int) + 2 - 2) = (m : Int) := by rw [IntWalk.i64_in _ (by omega)]; omega
    have d1 : decide ((m : Int) + 2 < 2) = false := by simp; omega
    have d2 : decide (13 < (m : Int) + 2) = false := by simp; omega
    obtain ⟨S, hS⟩ : ∃ S, S = Dx.wordAt m := ⟨_, rfl⟩
    rw [← hS] at hc ⊢
    clear hblk hS h
    go_enter Tryd.func16, Tryd.ntmps16
    go_wp2_with fail
    go_ret
    exact ⟨rfl, rfl⟩
  · rw [Dx.word_none k h]
    clear hblk
    by_cases h1 : k < 2
    · go_enter Tryd.func16, Tryd.ntmps16
      go_wp2_with fail
      go_ret
      exact ⟨rfl, rfl⟩
    · have h2 : 13 < k := by omega
      go_enter Tryd.func16, Tryd.ntmps16
      go_wp2_with fail
      go_ret
      exact ⟨rfl, rfl⟩

set_option maxHeartbeats 4000000 in
set_option maxRecDepth 100000 in
theorem rkind_any (x : ByteArray) (w : World) : Calls Tryd.prog 17 #[.string x] w fun e w' => e = .returned (.int .i64 (Dx.kindOf x)) ∧ w = w' := by
  rcases Dx.kind_cases x with hno | ⟨k, hk, rfl⟩
  · rw [Dx.kind_miss x hno]
    have no : ∀ (k : Nat) (l : List UInt8), k < 12 → wordTab.getD k [] = l → (x.toList == l) = false := fun k l hk hl => by
      have h1 : x ≠ ⟨l.toArray⟩ := fun e => hno k hk (by rw [e, ← hl]; rfl)
      have h2 := ba_beq x ⟨l.toArray⟩
      rw [decide_eq_false h1] at h2
      rwa [show (⟨l.toArray⟩ : ByteArray).toList = l from by rw [Lib.toList_data]] at h2
    have m0 : (x.toList == [105, 102]) = false := no 0 [105, 102] (by omega) rfl
    have m1 : (x.toList == [105, 102, 100, 101, 102]) = false := no 1 [105, 102, 100, 101, 102] (by omega) rfl
    have m2 : (x.toList == [105, 102, 110, 100, 101, 102]) = false := no 2 [105, 102, 110, 100, 101, 102] (by omega) rfl
    have m3 : (x.toList == [101, 108, 105, 102]) = false := no 3 [101, 108, 105, 102] (by omega) rfl
    have m4 : (x.toList == [101, 108, 115, 101]) = false := no 4 [101, 108, 115, 101] (by omega) rfl
    have m5 : (x.toList == [101, 110, 100, 105, 102]) = false := no 5 [101, 110, 100, 105, 102] (by omega) rfl
    have m6 : (x.toList == [100, 101, 102, 105, 110, 101]) = false := no 6 [100, 101, 102, 105, 110, 101] (by omega) rfl
    have m7 : (x.toList == [117, 110, 100, 101, 102]) = false := no 7 [117, 110, 100, 101, 102] (by omega) rfl
    have m8 : (x.toList == [105, 110, 99, 108, 117, 100, 101]) = false := no 8 [105, 110, 99, 108, 117, 100, 101] (by omega) rfl
    have m9 : (x.toList == [101, 114, 114, 111, 114]) = false := no 9 [101, 114, 114, 111, 114] (by omega) rfl
    have m10 : (x.toList == [112, 114, 97, 103, 109, 97]) = false := no 10 [112, 114, 97, 103, 109, 97] (by omega) rfl
    have m11 : (x.toList == [108, 105, 110, 101]) = false := no 11 [108, 105, 110, 101] (by omega) rfl
    clear hno no
    go_enter Tryd.func17, Tryd.ntmps17
    go_wp2_with fail
    go_ret
    exact ⟨rfl, rfl⟩
  · rw [Dx.kind_hit k hk]
    have hc : k = 0 ∨ k = 1 ∨ k = 2 ∨ k = 3 ∨ k = 4 ∨ k = 5 ∨ k = 6 ∨ k = 7 ∨ k = 8 ∨ k = 9 ∨ k = 10 ∨ k = 11 := by omega
    rcases hc with rfl | rfl | rfl | rfl | rfl | rfl | rfl | rfl | rfl | rfl | rfl | rfl
    · rw [show Dx.wordAt 0 = ⟨#[105, 102]⟩ from rfl]
      go_enter Tryd.func17, Tryd.ntmps17
      go_wp2_with fail
      go_ret
      exact ⟨rfl, rfl⟩
    · rw [show Dx.wordAt 1 = ⟨#[105, 102, 100, 101, 102]⟩ from rfl]
      go_enter Tryd.func17, Tryd.ntmps17
      go_wp2_with fail
      go_ret
      exact ⟨rfl, rfl⟩
    · rw [show Dx.wordAt 2 = ⟨#[105, 102, 110, 100, 101, 102]⟩ from rfl]
      go_enter Tryd.func17, Tryd.ntmps17
      go_wp2_with fail
      go_ret
      exact ⟨rfl, rfl⟩
    · rw [show Dx.wordAt 3 = ⟨#[101, 108, 105, 102]⟩ from rfl]
      go_enter Tryd.func17, Tryd.ntmps17
      go_wp2_with fail
      go_ret
      exact ⟨rfl, rfl⟩
    · rw [show Dx.wordAt 4 = ⟨#[101, 108, 115, 101]⟩ from rfl]
      go_enter Tryd.func17, Tryd.ntmps17
      go_wp2_with fail
      go_ret
      exact ⟨rfl, rfl⟩
    · rw [show Dx.wordAt 5 = ⟨#[101, 110, 100, 105, 102]⟩ from rfl]
      go_enter Tryd.func17, Tryd.ntmps17
      go_wp2_with fail
      go_ret
      exact ⟨rfl, rfl⟩
    · rw [show Dx.wordAt 6 = ⟨#[100, 101, 102, 105, 110, 101]⟩ from rfl]
      go_enter Tryd.func17, Tryd.ntmps17
      go_wp2_with fail
      go_ret
      exact ⟨rfl, rfl⟩
    · rw [show Dx.wordAt 7 = ⟨#[117, 110, 100, 101, 102]⟩ from rfl]
      go_enter Tryd.func17, Tryd.ntmps17
      go_wp2_with fail
      go_ret
      exact ⟨rfl, rfl⟩
    · rw [show Dx.wordAt 8 = ⟨#[105, 110, 99, 108, 117, 100, 101]⟩ from rfl]
      go_enter Tryd.func17, Tryd.ntmps17
      go_wp2_with fail
      go_ret
      exact ⟨rfl, rfl⟩
    · rw [show Dx.wordAt 9 = ⟨#[101, 114, 114, 111, 114]⟩ from rfl]
      go_enter Tryd.func17, Tryd.ntmps17
      go_wp2_with fail
      go_ret
      exact ⟨rfl, rfl⟩
    · rw [show Dx.wordAt 10 = ⟨#[112, 114, 97, 103, 109, 97]⟩ from rfl]
      go_enter Tryd.func17, Tryd.ntmps17
      go_wp2_with fail
      go_ret
      exact ⟨rfl, rfl⟩
    · rw [show Dx.wordAt 11 = ⟨#[108, 105, 110, 101]⟩ from rfl]
      go_enter Tryd.func17, Tryd.ntmps17
      go_wp2_with fail
      go_ret
      exact ⟨rfl, rfl⟩

end Go.Proofs.YtnkheejpmkflaaaDoor
