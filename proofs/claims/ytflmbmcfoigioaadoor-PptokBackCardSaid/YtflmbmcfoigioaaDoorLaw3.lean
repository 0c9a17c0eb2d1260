/- What is proved: PptokBack and PptokPairs answer true, in whatever memory. -/
import Derived.Test.YtflmbmcfoigioaaDoorLaw1
import Derived.Test.YtflmbmcfoigioaaDoorRefS
namespace Go.Proofs.YtflmbmcfoigioaaDoor
open Go.RowKit Go.Shelf
open Lx (T)

set_option maxRecDepth 100000 in
set_option maxHeartbeats 8000000 in
theorem back_any (s : ByteArray) (hm : s.size ≤ maxLen) (w : World) (hG : Glob w) : Calls Tryd.prog 6 #[.string s] w (TruePost w) := by
  unfold maxLen at hm
  have HG := Lib.hid hG
  clear hG
  by_cases hs : s.size ≤ 1000
  · have h1 := Lx.tk_length false (Sp.left 0 s.data.toList)
    have h2 := Lx.pr_length false (Sp.left 0 s.data.toList)
    have h3 := left_short s 1000 hs
    have h4 := Lx.tk_back (Sp.left 0 s.data.toList)
    obtain ⟨ts, hts⟩ : ∃ ts, ts = Lx.tk false (Sp.left 0 s.data.toList) := ⟨_, rfl⟩
    rw [← hts] at h1 h2 h4
    have b1 : ts.length ≤ 1000 := by omega
    have b2 : (Lx.pr ts).length ≤ 2000 := by omega
    have HT := Lib.hid hts
    have HBk := Lib.hid h4
    obtain ⟨P, hP⟩ : ∃ P : ByteArray, P = ⟨(Lx.pr ts).toArray⟩ := ⟨_, rfl⟩
    have hPs : P.size ≤ 2000 := by rw [hP, mk_size]; exact b2
    have hPl : P.data.toList = Lx.pr ts := by rw [hP]
    have HP := Lib.hid hP
    have HPl := Lib.hid hPl
    clear h1 h2 h3 h4 hts hP hPl
    go_enter Tryd.func6, Tryd.ntmps6
    go_wp2_with fail
    refine (awake_any _ HG.out).mono ?_
    rintro e w1 ⟨rfl, hB1⟩
    go_wp2_with fail
    refine (tokens_any 0 s (by omega) _ (HG.out.later hB1)).mono ?_
    rintro e w2 ⟨v, rfl, hv, hB2⟩
    rw [← HT.out] at hv
    replace hB2 := Below.then hB1 hB2
    clear hB1
    obtain ⟨ad, cap, rfl, hc1, hc2, -⟩ := id hv
    unfold maxLen at hc2
    obtain ⟨n, hn⟩ : ∃ n, n = ts.length := ⟨_, rfl⟩
    rw [← hn] at b1 hc1 hv ⊢
    have Hn := Lib.hid hn
    have HV := Lib.hid hv
    have HB2 := Lib.hid hB2
    clear hn hv hB2
    go_wp2_with fail
    go_loop [5] (fun i => ∃ k : Nat, i = .int .i64 k ∧ k ≤ n ∧ ∀ t ∈ ts.take k, t.kind ≠ 6) (fun i => n - (intOf i).toNat)
    case atStart => exact ⟨0, rfl, Nat.zero_le _, by simp⟩
    case round =>
      obtain ⟨k, rfl, hk, hno⟩ := hrel
      have HNo := Lib.hid hno
      clear hno
      by_cases hlt : k < n
      · have hlt' : k < ts.length := by rw [← Hn.out]; exact hlt
        obtain ⟨x, hx⟩ : ∃ x, ts[k]? = some x := ⟨_, List.getElem?_eq_getElem hlt'⟩
        obtain ⟨g, o, rfl, -, -, -, hg, hcell⟩ := HV.out.cells (by rw [← Hn.out]; omega)
        obtain ⟨d0, -⟩ := hcell k x hx
        have ht : ts.take (k + 1) = ts.take k ++ [x] := by rw [List.take_succ_eq_append_getElem hlt', (List.getElem?_eq_some_iff.1 hx).2]
        have HTk := Lib.hid ht
        clear hcell hx ht hlt'
        by_cases hk6 : x.kind = 6
        · have t1 : ((x.kind : Int) == 6) = true := by rw [hk6]; rfl
          clear hk6
          go_wp2_with fail
          go_ret
          exact ⟨rfl, HB2.out⟩
        · have t1 : ((x.kind : Int) == 6) = false := by rw [beq_eq_false_iff_ne]; omega
          have HK := Lib.hid hk6
          clear hk6
          go_wp2_with fail
          go_round
          case rel =>
            refine ⟨k + 1, by go_num, by omega, ?_⟩
            rw [HTk.out]
            intro t htm
            rcases List.mem_append.1 htm with h | h
            · exact HNo.out t h
            · simp at h; rw [h]; exact HK.out
          case measure => simp [intOf]; omega
      · have hall : ∀ t ∈ ts, t.kind ≠ 6 := by
          have := HNo.out
          rwa [List.take_of_length_le (by rw [← Hn.out]; omega)] at this
        have hbk := HBk.out hall
        rw [← HPl.out] at hbk
        have HK := Lib.hid hbk
        clear hall hbk
        go_wp2_with fail
        refine (print_any _ 0 ts _ HV.out (by rw [← Hn.out]; omega) (by omega)).mono ?_
        rintro e w3 ⟨rfl, hB3⟩
        rw [← HP.out]
        have hv := HV.out.below hB3
        replace hB3 := Below.then HB2.out hB3
        go_wp2_with fail
        refine (tokens_any 0 P (by omega) _ (HG.out.later hB3)).mono ?_
        rintro e w4 ⟨u, rfl, hu, hB4⟩
        replace hv := hv.below hB4
        replace hB4 := Below.then hB3 hB4
        clear hB3
        go_wp2_with fail
        refine (alike_any _ _ 0 0 ts _ _ hv hu HK.out.symm (by rw [← Hn.out]; omega)).mono ?_
        rintro e w5 ⟨rfl, hB5⟩
        replace hB5 := Below.then hB4 hB5
        clear hB4 hv hu
        go_wp2_with fail
        go_ret
        exact ⟨rfl, hB5⟩
  · go_enter Tryd.func6, Tryd.ntmps6
    go_wp2_with fail
    refine (awake_any _ HG.out).mono ?_
    rintro e w1 ⟨rfl, hB1⟩
    go_wp2_with fail
    go_ret
    exact ⟨rfl, hB1⟩

theorem spread_len30 (t : List UInt8) (f : Nat → Nat) (hf : ∀ i, f i ≤ 30) (ht : t.length ≤ 500) : (Sp.spread f 0 t).length ≤ 100000 := by
  rw [← Sp.spread_spr]
  have h1 := Sp.spr_length t f 30 hf (t.length + 1)
  have h2 : (t.length + 1) * (2 * 30 + 1) ≤ 501 * 61 := Nat.mul_le_mul (by omega) (by omega)
  omega
theorem noadj_of (t : List UInt8) (h : ∀ c ∈ t, c ≠ 92) : ¬ Lx.adj t := by
  induction t with
  | nil => exact id
  | cons c r ih =>
    have ih' := ih (fun d hd => h d (List.mem_cons_of_mem _ hd))
    cases r with
    | nil => exact id
    | cons d r =>
      rintro (e | e)
      · exact h c (by simp) e.1
      · exact ih' e

set_option maxRecDepth 100000 in
set_option maxHeartbeats 8000000 in
theorem lpairs_any (s : ByteArray) (hm : s.size ≤ maxLen) (v : Value) (ps : List Int) (w : World) (hv : Ints w v ps) (hG : Glob w) : Calls Tryd.prog 7 #[.string s, v] w (TruePost w) := by
  unfold maxLen at hm
  have HG := Lib.hid hG
  clear hG
  obtain ⟨ad, cap, rfl, h1, h2, -⟩ := id hv
  unfold maxLen at h2
  obtain ⟨n, hn⟩ : ∃ n, n = ps.length := ⟨_, rfl⟩
  rw [← hn] at h1 hv ⊢
  have Hn := Lib.hid hn
  have HV := Lib.hid hv
  clear hn hv
  by_cases hs : s.size ≤ 500
  · by_cases hp : n ≤ 30
    · go_enter Tryd.func7, Tryd.ntmps7
      go_wp2_with fail
      refine (awake_any _ HG.out).mono ?_
      rintro e w1 ⟨rfl, hB1⟩
      have hv := HV.out.below hB1
      have HB1 := Lib.hid hB1
      have HV1 := Lib.hid hv
      clear hB1 hv HV
      go_wp2_with fail
      go_loop [6] (fun i => ∃ k : Nat, i = .int .i64 k ∧ k ≤ s.size ∧ ∀ c ∈ s.data.toList.take k, c ≠ 92) (fun i => s.size - (intOf i).toNat)
      case atStart => exact ⟨0, rfl, Nat.zero_le _, by simp⟩
      case round =>
        obtain ⟨k, rfl, hk, hno⟩ := hrel
        have HNo := Lib.hid hno
        clear hno
        by_cases hlt : k < s.size
        · have ht : s.data.toList.take (k + 1) = s.data.toList.take k ++ [s[k]] := by rw [List.take_succ_eq_append_getElem (by rw [size_list]; exact hlt)]; rfl
          have HT := Lib.hid ht
          clear ht
          by_cases hc : s[k] = 92
          · have t1 : ((s[k].toNat : Int) == 92) = true := u8_eq hc
            clear hc
            go_wp2_with fail
            go_ret
            exact ⟨rfl, HB1.out⟩
          · have t1 : ((s[k].toNat : Int) == 92) = false := u8_ne hc
            have HC := Lib.hid hc
            clear hc
            go_wp2_with fail
            go_round
            case rel =>
              refine ⟨k + 1, by go_num, by omega, ?_⟩
              rw [HT.out]
              intro c hc
              rcases List.mem_append.1 hc with hc | hc
              · exact HNo.out c hc
              · simp at hc; rw [hc]; exact HC.out
            case measure => simp [intOf]; omega
        · have hno : ∀ c ∈ s.data.toList, c ≠ 92 := by
            have := HNo.out
            rwa [List.take_of_length_le (by rw [size_list]; omega)] at this
          have hback := Sp.left_spread (Sp.cnt ps ps.length) s.data.toList hno 0 0
          have hself := Lx.left_noadj _ (noadj_of _ hno) 0
          have hcn : ∀ i, Sp.cnt ps ps.length i ≤ 30 := fun i => Nat.le_trans (Sp.cnt_le ps _ i) (by rw [← Hn.out]; exact hp)
          have htl := spread_len30 s.data.toList (Sp.cnt ps ps.length) hcn (by rw [size_list]; exact hs)
          obtain ⟨t, hT⟩ : ∃ t, t = Sp.spread (Sp.cnt ps ps.length) 0 s.data.toList := ⟨_, rfl⟩
          rw [← hT] at hback htl
          have hal : (Lx.tk false (Sp.left 0 s.data.toList)).map Lx.al = (Lx.tk false (Sp.left 0 t)).map Lx.al := by
            rw [Lx.tk_al, Lx.tk_al, hself]
            congr 1
            exact hback.symm
          have hlen := Lx.tk_length false (Sp.left 0 s.data.toList)
          have h3 := left_short s 500 hs
          have HT := Lib.hid hT
          have HA := Lib.hid hal
          have HLn := Lib.hid (show (Lx.tk false (Sp.left 0 s.data.toList)).length ≤ 1000000000 by omega)
          obtain ⟨Tt, hTt⟩ : ∃ Tt : ByteArray, Tt = ⟨t.toArray⟩ := ⟨_, rfl⟩
          have hTs : Tt.size ≤ 100000 := by rw [hTt, mk_size]; exact htl
          have hTl : Tt.data.toList = t := by rw [hTt]
          have HTt := Lib.hid hTt
          have HTl := Lib.hid hTl
          clear hno hback hself hcn htl hT hal hlen h3 hTt hTl HNo
          go_wp2_with fail
          refine (tokens_any 0 s (by omega) _ (HG.out.later HB1.out)).mono ?_
          rintro e w2 ⟨va, rfl, hva, hB2⟩
          have hv := HV1.out.below hB2
          replace hB2 := Below.then HB1.out hB2
          go_wp2_with fail
          refine (refspread_any s (by omega) _ ps _ hv (by rw [← Hn.out]; omega)).mono ?_
          rintro e w3 ⟨rfl, hB3⟩
          rw [← HT.out, ← HTt.out]
          replace hva := hva.below hB3
          replace hB3 := Below.then hB2 hB3
          clear hB2 hv
          go_wp2_with fail
          refine (tokens_any 0 Tt (by omega) _ (HG.out.later hB3)).mono ?_
          rintro e w4 ⟨vb, rfl, hvb, hB4⟩
          rw [HTl.out] at hvb
          replace hva := hva.below hB4
          replace hB4 := Below.then hB3 hB4
          clear hB3
          go_wp2_with fail
          refine (alike_any _ _ 0 0 _ _ _ hva hvb HA.out HLn.out).mono ?_
          rintro e w5 ⟨rfl, hB5⟩
          replace hB5 := Below.then hB4 hB5
          clear hB4 hva hvb
          go_wp2_with fail
          go_ret
          exact ⟨rfl, hB5⟩
    · go_enter Tryd.func7, Tryd.ntmps7
      go_wp2_with fail
      refine (awake_any _ HG.out).mono ?_
      rintro e w1 ⟨rfl, hB1⟩
      go_wp2_with fail
      go_ret
      exact ⟨rfl, hB1⟩
  · go_enter Tryd.func7, Tryd.ntmps7
    go_wp2_with fail
    refine (awake_any _ HG.out).mono ?_
    rintro e w1 ⟨rfl, hB1⟩
    go_wp2_with fail
    go_ret
    exact ⟨rfl, hB1⟩
end Go.Proofs.YtflmbmcfoigioaaDoor
