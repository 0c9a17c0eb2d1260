/- What is proved: DirectNames answers true, in whatever memory. -/
import Derived.Test.YtnkheejpmkflaaaDoorLawA
import Derived.Test.YtnkheejpmkflaaaDoorDm
namespace Go.Proofs.YtnkheejpmkflaaaDoor
open Go.RowKit Go.Shelf

namespace Dx
theorem nameOk_snoc : ∀ (a : List UInt8) (c : UInt8), nameOk a = true → nameB c = true → ¬ (a.getLast? = some 47 ∧ c = 47) → nameOk (a ++ [c]) = true
  | [], c, _, h, _ => h
  | [d], c, h1, h2, h3 => by
    show nameOk (d :: c :: []) = true
    have hd : nameB d = true := h1
    simp only [nameOk, Bool.and_eq_true, Bool.not_eq_true', Bool.and_eq_false_iff]
    refine ⟨⟨hd, ?_⟩, h2⟩
    by_cases e : d = 47
    · right
      rw [beq_eq_false_iff_ne]
      intro e2
      exact h3 ⟨by simp [e], e2⟩
    · left; rw [beq_eq_false_iff_ne]; exact e
  | d :: f :: r, c, h1, h2, h3 => by
    have ih := nameOk_snoc (f :: r) c (nameOk_cons d (f :: r) h1).2 h2 (fun e => h3 ⟨by rw [← e.1]; simp, e.2⟩)
    simp only [nameOk, Bool.and_eq_true] at h1
    show nameOk (d :: f :: (r ++ [c])) = true
    simp only [nameOk, Bool.and_eq_true]
    exact ⟨h1.1, ih⟩

/-- What the tests on a byte come to. -/
def ByteCases (n : Int) (b : Bool) : Prop :=
  (b = true ∧ (n == 47) = false ∧ ((97 ≤ n ∧ n ≤ 122) ∨ (n < 97 ∧ 65 ≤ n ∧ n ≤ 90) ∨ (n < 97 ∧ n < 65 ∧ 48 ≤ n ∧ n ≤ 57) ∨ (n < 97 ∧ n < 65 ∧ n < 48 ∧ (n == 46) = true) ∨ (n < 97 ∧ n < 65 ∧ n < 48 ∧ (n == 46) = false ∧ (n == 45) = true))) ∨
  (b = true ∧ n < 97 ∧ n < 65 ∧ n < 48 ∧ (n == 46) = false ∧ (n == 45) = false ∧ (n == 47) = true) ∨
  (b = false ∧ (n == 46) = false ∧ (n == 45) = false ∧ (n == 47) = false ∧ ((n < 97 ∧ n < 65 ∧ n < 48) ∨ (n < 97 ∧ n < 65 ∧ 48 ≤ n ∧ 57 < n) ∨ (n < 97 ∧ 65 ≤ n ∧ 90 < n ∧ 48 ≤ n ∧ 57 < n) ∨ (97 ≤ n ∧ 122 < n ∧ 65 ≤ n ∧ 90 < n ∧ 48 ≤ n ∧ 57 < n)))
instance (n : Int) (b : Bool) : Decidable (ByteCases n b) := by unfold ByteCases; infer_instance
theorem byte_cases (c : UInt8) : ByteCases (c.toNat : Int) (nameB c) := by
  have := u8_all (fun c => decide (ByteCases (c.toNat : Int) (nameB c))) (by decide +kernel) c
  simpa using this
end Dx

theorem take_snoc (s : ByteArray) (k : Nat) (h : k < s.size) : s.data.toList.take (k + 1) = s.data.toList.take k ++ [s[k]] := by
  rw [List.take_succ_eq_append_getElem (by rw [size_list]; exact h)]; rfl
theorem take_last (s : ByteArray) (k : Nat) (h : k < s.size) (h0 : 0 < k) : (s.data.toList.take k).getLast? = some s[k - 1] := by
  obtain ⟨j, rfl⟩ : ∃ j, k = j + 1 := ⟨k - 1, by omega⟩
  rw [take_snoc s j (by omega)]
  simp

set_option maxRecDepth 100000 in
set_option maxHeartbeats 8000000 in
theorem dnames_any (s : ByteArray) (hm : s.size ≤ maxLen) (w : World) (hG : Glob w) : Calls Tryd.prog 8 #[.string s] w (TruePost w) := by
  unfold maxLen at hm
  have HG := Lib.hid hG
  clear hG
  rcases Nat.eq_zero_or_pos s.size with h0 | h1
  · have z0 : (s.size : Int) < 1 := by omega
    go_enter Tryd.func8, Tryd.ntmps8
    go_wp2_with fail
    refine (awake_any _ HG.out).mono ?_
    rintro e w1 ⟨rfl, hB1⟩
    go_wp2_with fail
    go_ret
    exact ⟨rfl, hB1⟩
  · have z0 : ¬ ((s.size : Int) < 1) := by omega
    by_cases h50 : s.size ≤ 50
    · have z1 : ¬ ((50 : Int) < s.size) := by omega
      go_enter Tryd.func8, Tryd.ntmps8
      go_wp2_with fail
      refine (awake_any _ HG.out).mono ?_
      rintro e w1 ⟨rfl, hB1⟩
      have HB1 := Lib.hid hB1
      clear hB1
      go_wp2_with fail
      go_loop [4] (fun i => ∃ k : Nat, i = .int .i64 k ∧ k ≤ s.size ∧ Dx.nameOk (s.data.toList.take k) = true) (fun i => s.size - (intOf i).toNat)
      case atStart => exact ⟨0, rfl, Nat.zero_le _, rfl⟩
      case round =>
        obtain ⟨k, rfl, hk, hok⟩ := hrel
        have HOk := Lib.hid hok
        clear hok
        by_cases hlt : k < s.size
        · have hbc := Dx.byte_cases s[k]
          have hts := take_snoc s k hlt
          have HTs := Lib.hid hts
          clear hts
          rcases hbc with ⟨hb, t47, hcs⟩ | ⟨hb, c1, c2, c3, c4, c5, t47⟩ | ⟨hb, c4, c5, t47, hcs⟩
          · have hne : s[k] ≠ 47 := fun e => by rw [e] at t47; revert t47; decide
            have hok2 : Dx.nameOk (s.data.toList.take (k + 1)) = true := by
              rw [HTs.out]
              exact Dx.nameOk_snoc _ _ HOk.out hb (fun h => hne h.2)
            have HO2 := Lib.hid hok2
            clear hb hne hok2
            rcases hcs with ⟨c1, c2⟩ | ⟨c1, c2, c3⟩ | ⟨c1, c2, c3, c4⟩ | ⟨c1, c2, c3, c4⟩ | ⟨c1, c2, c3, c4, c5⟩ <;> rcases Nat.eq_zero_or_pos k with rfl | hk0
            all_goals
              go_wp2_with fail
              go_round
            all_goals first
              | exact ⟨k + 1, by go_num, by omega, HO2.out⟩
              | exact ⟨0 + 1, by go_num, by omega, HO2.out⟩
              | (simp [intOf]; omega)
          · have h47 : s[k] = 47 := by
              have e : (s[k].toNat : Int) = 47 := by simpa using t47
              apply UInt8.toNat_inj.1
              show s[k].toNat = 47
              omega
            rcases Nat.eq_zero_or_pos k with rfl | hk0
            · have hok2 : Dx.nameOk (s.data.toList.take (0 + 1)) = true := by
                rw [HTs.out]
                exact Dx.nameOk_snoc _ _ HOk.out hb (fun h => by simp at h)
              have HO2 := Lib.hid hok2
              clear hb h47 hok2
              go_wp2_with fail
              go_round
              case rel => exact ⟨0 + 1, by go_num, by omega, HO2.out⟩
              case measure => simp [intOf]; omega
            · have hlast := take_last s k hlt hk0
              have hk1 : k - 1 < s.size := by omega
              have x1 : (0 : Int) ≤ (k : Int) - 1 := by omega
              have x2 : (k : Int) - 1 < s.size := by omega
              have x3 : ((k : Int) - 1).toNat = k - 1 := by omega
              by_cases hp : s[k - 1] = 47
              · have tp : ((s[k - 1].toNat : Int) == 47) = true := u8_eq hp
                clear hb h47 hlast hp
                go_wp2_with fail
                go_ret
                exact ⟨rfl, HB1.out⟩
              · have tp : ((s[k - 1].toNat : Int) == 47) = false := u8_ne hp
                have hok2 : Dx.nameOk (s.data.toList.take (k + 1)) = true := by
                  rw [HTs.out]
                  exact Dx.nameOk_snoc _ _ HOk.out hb (fun h => by rw [hlast] at h; exact hp (Option.some.inj h.1))
                have HO2 := Lib.hid hok2
                clear hb h47 hlast hp hok2
                go_wp2_with fail
                go_round
                case rel => exact ⟨k + 1, by go_num, by omega, HO2.out⟩
                case measure => simp [intOf]; omega
          · clear hb
            rcases hcs with ⟨c1, c2, c3⟩ | ⟨c1, c2, c3, c6⟩ | ⟨c1, c2, c3, c6, c7⟩ | ⟨c1, c2, c3, c6, c7, c8⟩
            all_goals
              go_wp2_with fail
              go_ret
              exact ⟨rfl, HB1.out⟩
        · have hok := HOk.out
          rw [List.take_of_length_le (by rw [size_list]; omega)] at hok
          obtain ⟨l, hl⟩ : ∃ l, l = s.data.toList := ⟨_, rfl⟩
          have hsl : (⟨l.toArray⟩ : ByteArray) = s := by rw [hl]
          have hll : l.length = s.size := by rw [hl, size_list]
          rw [← hl] at hok
          obtain ⟨c, r, hcr⟩ : ∃ c r, l = c :: r := by
            cases l with
            | nil => simp at hll; omega
            | cons c r => exact ⟨c, r, rfl⟩
          obtain ⟨D1, hD1⟩ : ∃ D1, D1 = [35, 105, 110, 99, 108, 117, 100, 101, 32, 34] ++ s.data.toList := ⟨_, rfl⟩
          obtain ⟨D2, hD2⟩ : ∃ D2, D2 = D1 ++ [34, 10] := ⟨_, rfl⟩
          obtain ⟨E1, hE1⟩ : ∃ E1, E1 = [35, 32, 32, 105, 110, 99, 108, 117, 100, 101, 32, 60] ++ s.data.toList := ⟨_, rfl⟩
          obtain ⟨E2, hE2⟩ : ∃ E2, E2 = E1 ++ [62, 32, 47, 47, 32, 120] := ⟨_, rfl⟩
          have lD1 : D1.length = s.size + 10 := by rw [hD1, List.length_append, size_list]; simp; omega
          have lE1 : E1.length = s.size + 12 := by rw [hE1, List.length_append, size_list]; simp; omega
          have lD2 : D2.length = s.size + 12 := by rw [hD2, List.length_append, lD1]; simp
          have lE2 : E2.length = s.size + 18 := by rw [hE2, List.length_append, lE1]; simp
          have q1 : ∀ W, (Op.stringOp .add ⟨#[35, 105, 110, 99, 108, 117, 100, 101, 32, 34]⟩ s).run Tryd.prog W = .ok (.string ⟨D1.toArray⟩) W := fun W => add_ba [35, 105, 110, 99, 108, 117, 100, 101, 32, 34] s D1 (by simp; omega) hD1 W
          have q2 : ∀ W, (Op.stringOp .add ⟨D1.toArray⟩ ⟨#[34, 10]⟩).run Tryd.prog W = .ok (.string ⟨D2.toArray⟩) W := fun W => by rw [hD2]; exact add_run D1 [34, 10] (by rw [lD1]; simp; omega) W
          have q3 : ∀ W, (Op.stringOp .add ⟨#[35, 32, 32, 105, 110, 99, 108, 117, 100, 101, 32, 60]⟩ s).run Tryd.prog W = .ok (.string ⟨E1.toArray⟩) W := fun W => add_ba [35, 32, 32, 105, 110, 99, 108, 117, 100, 101, 32, 60] s E1 (by simp; omega) hE1 W
          have q4 : ∀ W, (Op.stringOp .add ⟨E1.toArray⟩ ⟨#[62, 32, 47, 47, 32, 120]⟩).run Tryd.prog W = .ok (.string ⟨E2.toArray⟩) W := fun W => by rw [hE2]; exact add_run E1 [62, 32, 47, 47, 32, 120] (by rw [lE1]; simp; omega) W
          obtain ⟨S1, hS1⟩ : ∃ S1 : ByteArray, S1 = ⟨D2.toArray⟩ := ⟨_, rfl⟩
          obtain ⟨S2, hS2⟩ : ∃ S2 : ByteArray, S2 = ⟨E2.toArray⟩ := ⟨_, rfl⟩
          have hS1s : S1.size ≤ 100000 := by rw [hS1, mk_size, lD2]; omega
          have hS2s : S2.size ≤ 100000 := by rw [hS2, mk_size, lE2]; omega
          have f1 := Dx.first_q S1 l (by rw [hS1, hD2, hD1, hl]; simp [Dx.inc]) (Dx.nameOk_all l hok)
          have f2 : l.getLast? ≠ some 45 → (Dx.firstLn S2).kind = 10 ∧ Dx.target 10 (Dx.firstLn S2).toks = (⟨l.toArray⟩, true, 0) := fun hla => by
            rw [hcr] at hla hok ⊢
            exact Dx.first_a S2 c r (by rw [hS2, hE2, hE1, ← hl, hcr]; simp [Dx.inc]) hok hla
          rw [hsl] at f1 f2
          rw [← hS1] at q2
          rw [← hS2] at q4
          obtain ⟨X, hX⟩ : ∃ X, X = Dx.target (Dx.firstLn S2).kind (Dx.firstLn S2).toks := ⟨_, rfl⟩
          obtain ⟨x1, x2, x3⟩ := X
          have hX2 : l.getLast? ≠ some 45 → x1 = s ∧ x2 = true ∧ x3 = 0 := fun hla => by
            obtain ⟨g1, g2⟩ := f2 hla
            rw [g1, g2] at hX
            simpa using hX
          have hy : Dx.target (Dx.firstLn S1).kind (Dx.firstLn S1).toks = (s, false, 0) := by rw [f1.1]; exact f1.2
          have HY := Lib.hid hy
          have HX := Lib.hid hX
          have HX2 := Lib.hid hX2
          have hlast : ∀ j (h : j < s.size), j + 1 = s.size → l.getLast? = some s[j] := fun j h hj => by
            rw [hl, List.getLast?_eq_getElem?, size_list, ← hj, Nat.add_sub_cancel, List.getElem?_eq_getElem (by rw [size_list]; exact h)]; rfl
          have HLa := Lib.hid hlast
          clear hok hl hsl hll hcr hD1 hD2 hE1 hE2 lD1 lD2 lE1 lE2 hS1 hS2 f1 f2 hX hX2 hy hlast HOk
          go_wp2_with fail
          refine (lfirst_any S1 hS1s _ (HG.out.later HB1.out)).mono ?_
          rintro e w2 ⟨ad2, cc2, rfl, hk2, hB2⟩
          replace hB2 := Below.then HB1.out hB2
          go_wp2_with fail
          refine (target_fit _ _ _ _ _ _ hk2 (Dx.firstLn_fit S1 hS1s)).mono ?_
          rintro e w3 ⟨rfl, hB3⟩
          rw [HY.out]
          dsimp only [tgtV]
          replace hB3 := Below.then hB2 hB3
          clear hB2 hk2
          go_wp2_with fail
          refine (lfirst_any S2 hS2s _ (HG.out.later hB3)).mono ?_
          rintro e w4 ⟨ad4, cc4, rfl, hk4, hB4⟩
          replace hB4 := Below.then hB3 hB4
          clear hB3
          go_wp2_with fail
          refine (target_fit _ _ _ _ _ _ hk4 (Dx.firstLn_fit S2 hS2s)).mono ?_
          rintro e w5 ⟨rfl, hB5⟩
          rw [← HX.out]
          dsimp only [tgtV]
          replace hB5 := Below.then hB4 hB5
          have HB5 := Lib.hid hB5
          clear hB4 hk4 hB5 q1 q2 q3 q4 hS1s hS2s
          go_wp2_with fail
          go_loop [13, 14] (fun ar i => ∃ (b : Bool) (k : Nat), ar = .bool b ∧ i = .int .i64 k ∧ k ≤ s.size ∧ (k < s.size → b = false) ∧ (k = s.size → (b = true ↔ l.getLast? = some 45))) (fun _ i => s.size - (intOf i).toNat)
          case atStart => exact ⟨false, 0, rfl, rfl, Nat.zero_le _, fun _ => rfl, fun h => by omega⟩
          case round =>
            obtain ⟨b, k, rfl, rfl, hk, hb1, hb2⟩ := hrel
            by_cases hlt2 : k < s.size
            · obtain rfl := hb1 hlt2
              clear hb1 hb2
              by_cases h45 : s[k] = 45
              · have t1 : ((s[k].toNat : Int) == 45) = true := u8_eq h45
                by_cases hl1 : k + 1 = s.size
                · have t2 : ((k : Int) == (s.size : Int) - 1) = true := by simp; omega
                  have hla := HLa.out k hlt2 hl1
                  rw [h45] at hla
                  have HL2 := Lib.hid hla
                  clear h45 hla
                  go_wp2_with fail
                  go_round
                  case rel => exact ⟨true, k + 1, rfl, by go_num, by omega, fun h => by omega, fun _ => ⟨fun _ => HL2.out, fun _ => rfl⟩⟩
                  case measure => simp [intOf]; omega
                · have t2 : ((k : Int) == (s.size : Int) - 1) = false := by simp; omega
                  clear h45
                  go_wp2_with fail
                  go_round
                  case rel => exact ⟨false, k + 1, rfl, by go_num, by omega, fun _ => rfl, fun h => by omega⟩
                  case measure => simp [intOf]; omega
              · have t1 : ((s[k].toNat : Int) == 45) = false := u8_ne h45
                have hn : k + 1 = s.size → ¬ (l.getLast? = some 45) := fun h e => by
                  rw [HLa.out k hlt2 h] at e
                  exact h45 (Option.some.inj e)
                have HNn := Lib.hid hn
                clear h45 hn
                go_wp2_with fail
                go_round
                case rel => exact ⟨false, k + 1, rfl, by go_num, by omega, fun _ => rfl, fun h => ⟨fun h' => (by cases h'), fun h' => absurd h' (HNn.out h)⟩⟩
                case measure => simp [intOf]; omega
            · have hiff := hb2 (by omega)
              clear hb1 hb2
              cases b with
              | true =>
                clear hiff
                go_wp2_with fail
                go_ret
                exact ⟨rfl, HB5.out⟩
              | false =>
                obtain ⟨rfl, rfl, rfl⟩ := HX2.out (fun e => by have := hiff.2 e; cases this)
                clear hiff
                go_wp2_with fail
                go_ret
                exact ⟨rfl, HB5.out⟩
    · have z1 : (50 : Int) < s.size := by omega
      go_enter Tryd.func8, Tryd.ntmps8
      go_wp2_with fail
      refine (awake_any _ HG.out).mono ?_
      rintro e w1 ⟨rfl, hB1⟩
      go_wp2_with fail
      go_ret
      exact ⟨rfl, hB1⟩
end Go.Proofs.YtnkheejpmkflaaaDoor
