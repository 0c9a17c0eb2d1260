/- What is proved: what sign tells of a text: the longest sign of the table with which it begins. -/
import Derived.Test.YtlkcmegjbdibcaaDoorW1
import Derived.Test.YtlkcmegjbdibcaaDoorRefT
import Derived.Deep.LoopGhost
import Derived.Deep.QuietTactic
import Derived.BigQuiet
import Derived.WalkSmall
import Derived.Laws.Rows
import Derived.WalkMore
namespace Go.Proofs.YtlkcmegjbdibcaaDoor
open Go.RowKit Go.Shelf

theorem tab_len : Lx.signTab.length = 48 := rfl
theorem tab_at (k : Nat) (h : k < 48) : ∃ s : List UInt8, Lx.signTab[k]? = some s ∧ signCells[k]? = some (.string ⟨s.toArray⟩) ∧ 1 ≤ s.length ∧ s.length ≤ 3 := by
  have h' : k < Lx.signTab.length := h
  refine ⟨Lx.signTab[k], List.getElem?_eq_getElem h', ?_, ?_⟩
  · unfold signCells
    rw [List.getElem?_toArray, List.getElem?_map, List.getElem?_eq_getElem h']; rfl
  · have : ∀ s ∈ Lx.signTab, 1 ≤ s.length ∧ s.length ≤ 3 := by decide
    exact this _ (List.getElem_mem h')
def longest (l : List UInt8) (k : Nat) : Nat := (Lx.signTab.take k).foldl (Lx.signStep l) 0
theorem longest_succ (l : List UInt8) (k : Nat) (s : List UInt8) (h : Lx.signTab[k]? = some s) : longest l (k + 1) = Lx.signStep l (longest l k) s := by
  unfold longest
  obtain ⟨hk, e⟩ := List.getElem?_eq_some_iff.1 h
  rw [List.take_succ_eq_append_getElem hk, List.foldl_append, e]; rfl
theorem longest_all (l : List UInt8) : longest l 48 = Lx.signLen l := rfl
theorem longest_le (l : List UInt8) (k : Nat) : longest l k ≤ 3 := by
  unfold longest
  have : ∀ (L : List (List UInt8)) (a : Nat), (∀ s ∈ L, s.length ≤ 3) → a ≤ 3 → L.foldl (Lx.signStep l) a ≤ 3 := by
    intro L
    induction L with
    | nil => intro a _ h; exact h
    | cons s L ih =>
      intro a hL ha
      refine ih _ (fun s' hs' => hL s' (List.mem_cons_of_mem _ hs')) ?_
      unfold Lx.signStep
      split
      · exact hL s (by simp)
      · exact ha
  refine this _ _ (fun s hs => ?_) (by omega)
  have h3 : ∀ s ∈ Lx.signTab, s.length ≤ 3 := by decide
  exact h3 s (List.mem_of_mem_take hs)

theorem idx_sign (A : Array Value) (v : Value) (k : Nat) (hA : A[k]? = some v) (hk : (k : Int) < 48) (W : World) : (Instr.index 78 (.agg A) (.int .i64 k)).run Tryd.prog W = .ok v W := by
  simp [Instr.index, run_underlying Tryd.underlying78, asIntOf, part, Tryd.isAgg9, Tryd.sizeOf9, hA, go_sem]
  intro h
  omega

theorem pre_no (sk l : List UInt8) (h : l.length < sk.length) : sk.isPrefixOf l = false := by
  cases h' : sk.isPrefixOf l with
  | false => rfl
  | true => have := (List.isPrefixOf_iff_prefix.1 h').length_le; omega
theorem step_keep (l : List UInt8) (L : Nat) (sk : List UInt8) (h : sk.length ≤ L ∨ sk.isPrefixOf l = false) : Lx.signStep l L sk = L := by
  unfold Lx.signStep
  rw [if_neg]
  rintro ⟨h1, h2⟩
  rcases h with h | h
  · omega
  · rw [h2] at h; cases h
theorem step_take (l : List UInt8) (L : Nat) (sk : List UInt8) (h : L < sk.length) (h2 : sk.isPrefixOf l = true) : Lx.signStep l L sk = sk.length := by
  unfold Lx.signStep
  rw [if_pos ⟨h, h2⟩]
theorem pre_ne (sk l : List UInt8) (j : Nat) (h1 : j < sk.length) (h2 : j < l.length) (h : sk[j] ≠ l[j]) : sk.isPrefixOf l = false := by
  cases h' : sk.isPrefixOf l with
  | false => rfl
  | true =>
    obtain ⟨r, hr⟩ := List.isPrefixOf_iff_prefix.1 h'
    refine absurd ?_ h
    have : l[j]? = sk[j]? := by rw [← hr, List.getElem?_append_left h1]
    rw [List.getElem?_eq_getElem h1, List.getElem?_eq_getElem h2] at this
    exact (Option.some.inj this).symm
theorem pre_yes (sk l : List UInt8) (h : sk.take sk.length = l.take sk.length) : sk.isPrefixOf l = true := by
  rw [List.isPrefixOf_iff_prefix, List.prefix_iff_eq_take]
  rwa [List.take_length] at h

set_option maxHeartbeats 4000000 in
set_option maxRecDepth 100000 in
theorem sign_any (s : ByteArray) (hs : s.size ≤ 4000000000) (w : World) (hG : Glob w) : Calls Tryd.prog 44 #[.string s] w fun e w' => e = .returned (.int .i64 (Lx.signLen s.data.toList)) ∧ Below w.heap.size w w' := by
  obtain ⟨_, tt, fz, hblk⟩ := hG
  obtain ⟨R, hR⟩ : ∃ R, R = Lx.signLen s.data.toList := ⟨_, rfl⟩
  rw [← hR]
  have HR := Lib.hid hR
  have HT := Lib.hid tab_at
  have hsz : (Tryd.prog.info? 78).map (·.size) = some signCells.size := by kernel_rfl
  obtain ⟨A, hA⟩ : ∃ A, A = signCells := ⟨_, rfl⟩
  rw [← hA] at hblk hsz
  have HA := Lib.hid hA
  clear hR hA
  go_enter Tryd.func44, Tryd.ntmps44
  go_wp2
  go_step3
  go_wp2
  go_step3
  go_wp2_with (with_reducible refine wpList_load_row rfl 78 _ rfl 0 rfl tt A fz (.array 48 9) hblk Tryd.underlying78 rfl hsz ?_)
  go_loopg [3, 8] 48 (fun g s3 s8 wx => ∃ k L : Nat, k + g = 48 ∧ s8 = .int .i64 k ∧ s3 = .int .i64 L ∧ L = longest s.data.toList k ∧ Below w.heap.size w wx)
  case atStart => exact ⟨0, 0, by omega, rfl, rfl, rfl, Below.refl _ _⟩
  case round =>
    obtain ⟨k, L, hkg, rfl, rfl, hL, hB⟩ := hrel
    have hL3 := longest_le s.data.toList k
    rw [← hL] at hL3
    have HL := Lib.hid hL
    clear hL hblk hsz
    cases gk with
    | zero =>
      have hk : k = 48 := by omega
      subst hk
      go_wp2_with fail
      go_ret
      exact ⟨ret_int (by rw [HR.out, HL.out, longest_all]), hB⟩
    | succ g =>
      have hk : k < 48 := by omega
      obtain ⟨sk, hsk, hck, hl1, hl3⟩ := HT.out k hk
      have hstep := longest_succ s.data.toList k sk hsk
      rw [← HL.out] at hstep
      obtain ⟨S, hS⟩ : ∃ S : ByteArray, S = ⟨sk.toArray⟩ := ⟨_, rfl⟩
      have hSl : sk = S.data.toList := by rw [hS]
      have hSz : S.size = sk.length := by rw [hS]; exact mk_size sk
      rw [← hS, ← HA.out] at hck
      rw [← hSz] at hl1 hl3
      have HS := Lib.hid hSl
      have HZ := Lib.hid hSz
      have HSt := Lib.hid hstep
      clear hS hSl hSz hstep hsk
      have hkz : (k : Int) < 48 := by omega
      have hidx := idx_sign A (.string S) k hck hkz
      have HI := Lib.hid (size_list s)
      have HJ := Lib.hid (size_list S)
      clear hck
      by_cases hc1 : S.size ≤ L
      · go_wp2_with fail
        go_roundg g
        case measure => omega
        case rel => exact ⟨k + 1, L, by omega, by go_num, rfl, by rw [HSt.out, step_keep _ _ _ (.inl (by rw [← HZ.out]; exact hc1))], hB⟩
      · by_cases hc2 : s.size < S.size
        · go_wp2_with fail
          go_roundg g
          case measure => omega
          case rel => exact ⟨k + 1, L, by omega, by go_num, rfl, by rw [HSt.out, step_keep _ _ _ (.inr (pre_no _ _ (by rw [← HZ.out, HI.out]; exact hc2)))], hB⟩
        · have hc3 : L < S.size := by omega
          go_wp2_with fail
          obtain ⟨U, rfl⟩ : ∃ U, U = wr := ⟨_, rfl⟩
          have HB := Lib.hid hB
          clear hB hidx
          go_loopg [24] S.size (fun g2 s24 wx => ∃ j : Nat, j + g2 = S.size ∧ s24 = .int .i64 j ∧ S.data.toList.take j = s.data.toList.take j ∧ Below w.heap.size w wx)
          case atStart => exact ⟨0, by omega, rfl, rfl, HB.out⟩
          case round =>
            obtain ⟨j, hjg, rfl, hpre, hB⟩ := hrel
            have HP := Lib.hid hpre
            clear hpre
            cases gk with
            | zero =>
              have hj : j = S.size := by omega
              subst hj
              go_wp2_with fail
              go_roundg g
              case measure => omega
              case rel =>
                refine ⟨k + 1, S.size, by omega, by go_num, rfl, ?_, hB⟩
                have h1 := HP.out
                have h2 := HS.out
                have h3 := HZ.out
                rw [HSt.out, step_take _ _ _ (by omega) (pre_yes _ _ (by rw [← h3, h2]; exact h1)), h3]
            | succ g2 =>
              have hj : j < S.size := by omega
              have hj2 : j < s.size := by omega
              have z1 : (0 : Int) ≤ j := by omega
              have z2 : (j : Int) < S.size := by omega
              have z3 : (j : Int) < s.size := by omega
              by_cases hne : S[j] = s[j]
              · have t1 : ((S[j].toNat : Int) == (s[j].toNat : Int)) = true := u8_eq hne
                have t2 : ((S[j].toNat : Int) != (s[j].toNat : Int)) = false := by simp [bne, t1]
                have HN := Lib.hid hne
                clear hne
                go_wp2_with fail
                go_quiet (fail)
                go_wp2_with fail
                go_roundg g2
                case measure => omega
                case rel =>
                  refine ⟨j + 1, by omega, by go_num, ?_, below_drewN hB _⟩
                  rw [List.take_succ_eq_append_getElem (by rw [HJ.out]; exact hj), List.take_succ_eq_append_getElem (by rw [HI.out]; exact hj2), HP.out]
                  congr 2
              · have t1 : ((S[j].toNat : Int) == (s[j].toNat : Int)) = false := u8_ne hne
                have t2 : ((S[j].toNat : Int) != (s[j].toNat : Int)) = true := by simp [bne, t1]
                have HN := Lib.hid hne
                clear hne
                go_wp2_with fail
                go_quiet (fail)
                go_wp2_with fail
                go_roundg g
                case measure => omega
                case rel =>
                  refine ⟨k + 1, L, by omega, by go_num, rfl, ?_, below_drewN hB _⟩
                  have h2 := HS.out
                  rw [HSt.out, step_keep _ _ _ (.inr (by rw [h2]; exact pre_ne _ _ j (by rw [HJ.out]; exact hj) (by rw [HI.out]; exact hj2) HN.out))]
end Go.Proofs.YtlkcmegjbdibcaaDoor
