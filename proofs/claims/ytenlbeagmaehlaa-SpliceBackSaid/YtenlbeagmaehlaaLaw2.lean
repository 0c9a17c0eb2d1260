/- What is proved: SpliceBack answers true, in whatever memory. -/
import Derived.Test.YtenlbeagmaehlaaLaw1
namespace Go.Proofs.Ytenlbeagmaehlaa
open Go.RowKit Go.Shelf

theorem spread_len (t : List UInt8) (f : Nat → Nat) (hf : ∀ i, f i ≤ 10000) (ht : t.length ≤ 1000000) : (Sp.spread f 0 t).length ≤ 50000000000 := by
  rw [← Sp.spread_spr]
  have := spr_room t f (t.length + 1) (by omega) hf 0 (Nat.zero_le _)
  simpa [Sp.prs] using this

theorem spread_len50 (t : List UInt8) (f : Nat → Nat) (hf : ∀ i, f i ≤ 50) (ht : t.length ≤ 2000) : (Sp.spread f 0 t).length ≤ 3000000 := by
  rw [← Sp.spread_spr]
  have h1 := Sp.spr_length t f 50 hf (t.length + 1)
  have h2 : (t.length + 1) * (2 * 50 + 1) ≤ 2001 * 101 := Nat.mul_le_mul (by omega) (by omega)
  omega

set_option maxRecDepth 100000 in
set_option maxHeartbeats 4000000 in
theorem back_any (s : ByteArray) (hm : s.size ≤ maxLen) (v : Value) (ps : List Int) (w : World) (hv : Ints w v ps) (hG : Glob w) : Calls Try.prog 6 #[.string s, v] w (TruePost w) := by
  unfold maxLen at hm
  have HG := Lib.hid hG
  clear hG
  obtain ⟨ad, cap, rfl, h1, h2, -⟩ := id hv
  unfold maxLen at h2
  obtain ⟨n, hn⟩ : ∃ n, n = ps.length := ⟨_, rfl⟩
  rw [← hn] at h1 hv ⊢
  have Hn := Lib.hid hn
  have HV := Lib.hid hv
  clear hn hv
  by_cases hs : s.size ≤ 2000
  · by_cases hp : n ≤ 50
    · go_enter Try.func6, Try.ntmps6
      go_wp2_with fail
      refine (awake_any _ HG.out).mono ?_
      rintro e w1 ⟨rfl, hB1⟩
      have hv := HV.out.below hB1
      have HB1 := Lib.hid hB1
      have HV1 := Lib.hid hv
      clear hB1 hv HV
      go_wp2_with fail
      go_loop [6] (fun i => ∃ k : Nat, i = .int .i64 k ∧ k ≤ s.size ∧ ∀ c ∈ s.data.toList.take k, c ≠ 92) (fun i => s.size - (intOf i).toNat)
      case atStart => exact ⟨0, rfl, Nat.zero_le _, by simp⟩
      case round =>
        obtain ⟨k, rfl, hk, hno⟩ := hrel
        have HNo := Lib.hid hno
        clear hno
        by_cases hlt : k < s.size
        · have ht : s.data.toList.take (k + 1) = s.data.toList.take k ++ [s[k]] := by rw [List.take_succ_eq_append_getElem (by rw [size_list]; exact hlt)]; rfl
          have HT := Lib.hid ht
          clear ht
          have t1 : ((s[k].toNat : Int) == 92) = decide (s[k] = 92) := toNat_eq s[k] 92 (by decide)
          by_cases hc : s[k] = 92
          · rw [decide_eq_true hc] at t1
            clear hc
            go_wp2_with fail
            go_ret
            exact ⟨rfl, HB1.out⟩
          · rw [decide_eq_false hc] at t1
            have HC := Lib.hid hc
            clear hc
            go_wp2_with fail
            go_round
            case rel =>
              refine ⟨k + 1, by go_num, by omega, ?_⟩
              rw [HT.out]
              intro c hc
              rcases List.mem_append.1 hc with hc | hc
              · exact HNo.out c hc
              · simp at hc; rw [hc]; exact HC.out
            case measure => simp [intOf]; omega
        · have hno : ∀ c ∈ s.data.toList, c ≠ 92 := by
            have := HNo.out
            rwa [List.take_of_length_le (by rw [size_list]; omega)] at this
          have hback := Sp.left_spread (Sp.cnt ps ps.length) s.data.toList hno 0 0
          have hcn : ∀ i, Sp.cnt ps ps.length i ≤ 50 := fun i => Nat.le_trans (Sp.cnt_le ps _ i) (by rw [← Hn.out]; exact hp)
          have htl := spread_len50 s.data.toList (Sp.cnt ps ps.length) hcn (by rw [size_list]; exact hs)
          have hct := Sp.left_count (Sp.spread (Sp.cnt ps ps.length) 0 s.data.toList) 0
          have hll : (Sp.left 0 (Sp.spread (Sp.cnt ps ps.length) 0 s.data.toList)).length = s.size := by
            rw [← size_list s, ← hback, List.length_map, hback]
          obtain ⟨t, hT⟩ : ∃ t, t = Sp.spread (Sp.cnt ps ps.length) 0 s.data.toList := ⟨_, rfl⟩
          rw [← hT] at hback htl hct hll
          have H1 := Lib.hid hback
          have HT := Lib.hid hT
          obtain ⟨m, hM⟩ : ∃ m, m = Lib.count t [92, 10] := ⟨_, rfl⟩
          rw [← hM] at hct
          have HM := Lib.hid hM
          have hq : ((t.length : Int) == (s.size : Int) + 2 * (m : Int)) = true := beq_iff_eq.2 (by omega)
          have hq1 : (0 : Int) ≤ m := by omega
          have hq2 : (m : Int) ≤ 3000000 := by omega
          have hln : (Sp.left 0 t).length ≤ 2000 := by omega
          have hsz : (⟨t.toArray⟩ : ByteArray).size = t.length := mk_size t
          have Hsz := Lib.hid hsz
          clear hno hback hT hM hct hcn HNo hsz hll
          go_wp2_with fail
          refine (spread_any s (by omega) _ ps _ HV1.out (by rw [← Hn.out]; omega)).mono ?_
          rintro e w2 ⟨rfl, hB2⟩
          rw [← HT.out]
          replace hB2 := Below.then HB1.out hB2
          go_wp2_with fail
          refine (join_any ⟨t.toArray⟩ (by rw [Hsz.out]; omega) _ (HG.out.later hB2)).mono ?_
          rintro e w3 ⟨u, rfl, hu, hB3⟩
          rw [show (⟨t.toArray⟩ : ByteArray).data.toList = t from rfl] at hu
          obtain ⟨ad2, cap2, rfl, -⟩ := id hu
          replace hB3 := Below.then hB2 hB3
          clear hB2
          go_wp2_with fail
          refine (text_any _ _ _ hu (by omega)).mono ?_
          rintro e w4 ⟨rfl, hB4⟩
          rw [H1.out]
          replace hB4 := Below.then hB3 hB4
          clear hB3 hu
          go_wp2_with fail
          refine (pairs_any ⟨t.toArray⟩ _ (HG.out.later hB4) (by rw [Hsz.out]; omega)).mono ?_
          rintro e w5 ⟨rfl, rfl⟩
          rw [show (⟨t.toArray⟩ : ByteArray).data.toList = t from rfl, ← HM.out]
          go_wp2_with fail
          go_ret
          exact ⟨rfl, hB4⟩
    · go_enter Try.func6, Try.ntmps6
      go_wp2_with fail
      refine (awake_any _ HG.out).mono ?_
      rintro e w1 ⟨rfl, hB1⟩
      go_wp2_with fail
      go_ret
      exact ⟨rfl, hB1⟩
  · go_enter Try.func6, Try.ntmps6
    go_wp2_with fail
    refine (awake_any _ HG.out).mono ?_
    rintro e w1 ⟨rfl, hB1⟩
    go_wp2_with fail
    go_ret
    exact ⟨rfl, hB1⟩
end Go.Proofs.Ytenlbeagmaehlaa
