/- What is proved: PptokLines answers true, in whatever memory. -/
import Derived.Test.YtflmbmcfoigioaaDoorLaw1
namespace Go.Proofs.YtflmbmcfoigioaaDoor
open Go.RowKit Go.Shelf
open Lx (T)

theorem Toks.front {W : World} {ad : Option Addr} {n cap : Nat} {f : Int} {ts : List T} (h : Toks W (.slice ad n cap) f ts) (k : Nat) (hk : k ≤ ts.length) : Toks W (.slice ad k cap) f (ts.take k) := by
  obtain ⟨ad', cap', e, h1, h2, h3⟩ := h
  injection e with e1 e2 e3
  subst e1 e2 e3
  have hl : (ts.take k).length = k := by rw [List.length_take]; omega
  refine ⟨ad, cap, by rw [hl], by rw [hl]; omega, h2, fun i t ht => ?_⟩
  rw [List.getElem?_take] at ht
  split at ht
  · exact h3 i t ht
  · cases ht
theorem Toks.rest {W : World} {g o n cap : Nat} {f : Int} {ts : List T} (h : Toks W (.slice (some ⟨g, o, none⟩) n cap) f ts) (k : Nat) (hk : k ≤ ts.length) : Toks W (.slice (some ⟨g, o + k * 6, none⟩) (n - k) (cap - k)) f (ts.drop k) := by
  obtain ⟨ad', cap', e, h1, h2, h3⟩ := h
  injection e with e1 e2 e3
  subst e1 e2 e3
  refine ⟨_, cap - k, by rw [List.length_drop], by rw [List.length_drop]; omega, by omega, fun i t ht => ?_⟩
  rw [List.getElem?_drop] at ht
  obtain ⟨g', o', e', ha⟩ := h3 _ t ht
  injection e' with e'
  injection e' with e4 e5
  subst e4 e5
  exact ⟨g, o + k * 6, rfl, by rw [show o + k * 6 + i * 6 = o + (k + i) * 6 by omega]; exact ha⟩
theorem Toks.none_at (W : World) (ad : Option Addr) (cap : Nat) (hc : cap ≤ maxLen) (f : Int) : Toks W (.slice ad 0 cap) f [] :=
  ⟨ad, cap, rfl, Nat.zero_le _, hc, fun i t ht => by simp at ht⟩

/-- What Lines asks of three lists. -/
theorem lines_parts (n l m : List T) (q : Bool) (h : n.map Lx.al = l.map Lx.al ++ (7, [10], q) :: m.map Lx.al) :
    n.length = l.length + m.length + 1 ∧ (n.take l.length).map Lx.al = l.map Lx.al ∧ (n.drop (l.length + 1)).map Lx.al = m.map Lx.al ∧ ∃ x, n[l.length]? = some x ∧ x.kind = 7 := by
  have hlen := congrArg List.length h
  simp only [List.length_map, List.length_append, List.length_cons] at hlen
  refine ⟨by omega, ?_, ?_, ?_⟩
  · rw [List.map_take, h, List.take_left' (by simp)]
  · rw [List.map_drop, h, ← List.drop_drop, List.drop_left' (by simp)]; rfl
  · have hlt : l.length < n.length := by omega
    refine ⟨_, List.getElem?_eq_getElem hlt, ?_⟩
    have := congrArg (·[l.length]?) h
    simp only [List.getElem?_map, List.getElem?_eq_getElem hlt, Option.map_some] at this
    rw [List.getElem?_append_right (by simp)] at this
    simp at this
    exact congrArg Prod.fst this

set_option maxRecDepth 100000 in
set_option maxHeartbeats 8000000 in
theorem lines_any (a b : ByteArray) (hma : a.size ≤ maxLen) (hmb : b.size ≤ maxLen) (w : World) (hG : Glob w) : Calls Tryd.prog 8 #[.string a, .string b] w (TruePost w) := by
  unfold maxLen at hma hmb
  have HG := Lib.hid hG
  clear hG
  by_cases ha : a.size ≤ 500
  · by_cases hb : b.size ≤ 500
    · have hlast : (a.size = 0) ∨ (∃ h : 0 < a.size, a[a.size - 1] = 92) ∨ (∃ h : 0 < a.size, a[a.size - 1] ≠ 92) := by
        rcases Nat.eq_zero_or_pos a.size with h | h
        · exact .inl h
        · by_cases hc : a[a.size - 1] = 92
          · exact .inr (.inl ⟨h, hc⟩)
          · exact .inr (.inr ⟨h, hc⟩)
      have main : (a.size = 0 ∨ ∃ h : 0 < a.size, a[a.size - 1] ≠ 92) → Calls Tryd.prog 8 #[.string a, .string b] w (TruePost w) := by
        intro hok
        have hl92 : a.data.toList = [] ∨ a.data.toList.getLast? ≠ some 92 := by
          rcases hok with h | ⟨h, hc⟩
          · exact .inl (List.length_eq_zero_iff.1 (by rw [size_list]; exact h))
          · refine .inr ?_
            rw [List.getLast?_eq_getElem?, size_list, List.getElem?_eq_getElem (by rw [size_list]; omega)]
            intro e
            exact hc (Option.some.inj e)
        have hcase : (a.size = 0) ∨ (0 < a.size ∧ ∃ h : a.size - 1 < a.size, ((a[a.size - 1].toNat : Int) == 92) = false) := by
          rcases hok with h | ⟨h, hc⟩
          · exact .inl h
          · exact .inr ⟨h, by omega, u8_ne hc⟩
        have HL92 := Lib.hid hl92
        clear hl92 hok hlast
        have da : decide (500 < (a.size : Int)) = false := by simp; omega
        have db : decide (500 < (b.size : Int)) = false := by simp; omega
        rcases hcase with h0 | ⟨h0, h1, t1⟩
        all_goals
          go_enter Tryd.func8, Tryd.ntmps8
          go_wp2_with fail
          refine (awake_any _ HG.out).mono ?_
          rintro e w1 ⟨rfl, hB1⟩
          have HB1 := Lib.hid hB1
          clear hB1
          go_wp2_with fail
          clear h0
          go_loop [6] (fun i => ∃ k : Nat, i = .int .i64 k ∧ k ≤ a.size ∧ ∀ c ∈ a.data.toList.take k, c ≠ 47) (fun i => a.size - (intOf i).toNat)
          case atStart => exact ⟨0, rfl, Nat.zero_le _, by simp⟩
          case round =>
            obtain ⟨k, rfl, hk, hno⟩ := hrel
            have HNo := Lib.hid hno
            clear hno
            by_cases hlt : k < a.size
            · have ht : a.data.toList.take (k + 1) = a.data.toList.take k ++ [a[k]] := by rw [List.take_succ_eq_append_getElem (by rw [size_list]; exact hlt)]; rfl
              have HT := Lib.hid ht
              clear ht
              by_cases hc : a[k] = 47
              · have t1 : ((a[k].toNat : Int) == 47) = true := u8_eq hc
                clear hc
                go_wp2_with fail
                go_ret
                exact ⟨rfl, HB1.out⟩
              · have t1 : ((a[k].toNat : Int) == 47) = false := u8_ne hc
                have HC := Lib.hid hc
                clear hc
                go_wp2_with fail
                go_round
                case rel =>
                  refine ⟨k + 1, by go_num, by omega, ?_⟩
                  rw [HT.out]
                  intro c hc
                  rcases List.mem_append.1 hc with hc | hc
                  · exact HNo.out c hc
                  · simp at hc; rw [hc]; exact HC.out
                case measure => simp [intOf]; omega
            · have hno : ∀ c ∈ a.data.toList, c ≠ 47 := by
                have := HNo.out
                rwa [List.take_of_length_le (by rw [size_list]; omega)] at this
              obtain ⟨q, hq⟩ := Lx.tk_lines a.data.toList b.data.toList HL92.out hno
              obtain ⟨D1, hD1⟩ : ∃ D1, D1 = a.data.toList ++ [10] := ⟨_, rfl⟩
              obtain ⟨D2, hD2⟩ : ∃ D2, D2 = D1 ++ b.data.toList := ⟨_, rfl⟩
              have hD2' : a.data.toList ++ 10 :: b.data.toList = D2 := by rw [hD2, hD1]; simp
              rw [hD2'] at hq
              have hl1 : D1.length ≤ 501 := by rw [hD1, List.length_append, size_list]; simp; omega
              have hl2 : D2.length ≤ 1001 := by rw [hD2, List.length_append, size_list]; omega
              have a1 : ∀ W, (Op.stringOp .add a ⟨#[10]⟩).run Tryd.prog W = .ok (.string ⟨D1.toArray⟩) W := fun W => by
                have := add_to a.data.toList [10] D1 (by rw [size_list]; simp; omega) hD1 W
                rwa [show (⟨a.data.toList.toArray⟩ : ByteArray) = a from by simp] at this
              have a2 : ∀ W, (Op.stringOp .add ⟨D1.toArray⟩ b).run Tryd.prog W = .ok (.string ⟨D2.toArray⟩) W := fun W => by
                have := add_to D1 b.data.toList D2 (by rw [size_list]; omega) hD2 W
                rwa [show (⟨b.data.toList.toArray⟩ : ByteArray) = b from by simp] at this
              obtain ⟨L, hL⟩ : ∃ L, L = Lx.tk false (Sp.left 0 a.data.toList) := ⟨_, rfl⟩
              obtain ⟨M, hM⟩ : ∃ M, M = Lx.tk false (Sp.left 0 b.data.toList) := ⟨_, rfl⟩
              obtain ⟨N, hN⟩ : ∃ N, N = Lx.tk false (Sp.left 0 D2) := ⟨_, rfl⟩
              rw [← hL, ← hM, ← hN] at hq
              obtain ⟨p1, p2, p3, x, p4, p5⟩ := lines_parts N L M q hq
              have bL := Lx.tk_length false (Sp.left 0 a.data.toList)
              have bM := Lx.tk_length false (Sp.left 0 b.data.toList)
              have cL := left_short a 500 ha
              have cM := left_short b 500 hb
              rw [← hL] at bL
              rw [← hM] at bM
              obtain ⟨S2, hS2⟩ : ∃ S2 : ByteArray, S2 = ⟨D2.toArray⟩ := ⟨_, rfl⟩
              have hS2l : S2.data.toList = D2 := by rw [hS2]
              have hS2s : S2.size ≤ 1001 := by rw [hS2, mk_size]; exact hl2
              rw [← hS2] at a2
              have HL := Lib.hid hL
              have HM := Lib.hid hM
              have HN := Lib.hid hN
              have HS2 := Lib.hid hS2l
              have HP1 := Lib.hid p1
              have HP2 := Lib.hid p2
              have HP3 := Lib.hid p3
              have HP4 := Lib.hid p4
              have HP5 := Lib.hid p5
              obtain ⟨nl, hnl⟩ : ∃ nl, nl = L.length := ⟨_, rfl⟩
              obtain ⟨nm, hnm⟩ : ∃ nm, nm = M.length := ⟨_, rfl⟩
              obtain ⟨nn, hnn⟩ : ∃ nn, nn = N.length := ⟨_, rfl⟩
              rw [← hnl] at bL
              rw [← hnm] at bM
              have bl : nl ≤ 500 := by omega
              have bm : nm ≤ 500 := by omega
              have bn : nl + 1 ≤ nn := by omega
              have bn2 : nn ≤ 1001 := by omega
              have hne : ((nn : Int) != (nl : Int) + (nm : Int) + 1) = false := by rw [bne_eq_false_iff_eq]; omega
              have Hnl := Lib.hid hnl
              have Hnm := Lib.hid hnm
              have Hnn := Lib.hid hnn
              clear hno hq hD1 hD2 hD2' hl1 hl2 hL hM hN p1 p2 p3 p4 p5 bL bM cL cM hS2 hS2l hnl hnm hnn HNo
              go_wp2_with fail
              refine (tokens_any 0 a (by omega) _ (HG.out.later HB1.out)).mono ?_
              rintro e w2 ⟨vl, rfl, hvl, hB2⟩
              rw [← HL.out] at hvl
              replace hB2 := Below.then HB1.out hB2
              go_wp2_with fail
              refine (tokens_any 0 b (by omega) _ (HG.out.later hB2)).mono ?_
              rintro e w3 ⟨vm, rfl, hvm, hB3⟩
              rw [← HM.out] at hvm
              replace hvl := hvl.below hB3
              replace hB3 := Below.then hB2 hB3
              clear hB2
              go_wp2_with fail
              refine (tokens_any 0 S2 (by omega) _ (HG.out.later hB3)).mono ?_
              rintro e w4 ⟨vn, rfl, hvn, hB4⟩
              rw [HS2.out, ← HN.out] at hvn
              replace hvl := hvl.below hB4
              replace hvm := hvm.below hB4
              replace hB4 := Below.then hB3 hB4
              clear hB3
              obtain ⟨adl, capl, rfl, hl1, hl2, -⟩ := id hvl
              obtain ⟨adm, capm, rfl, hm1, hm2, -⟩ := id hvm
              obtain ⟨adn, capn, rfl, hn1, hn2, -⟩ := id hvn
              obtain ⟨g, o, rfl, -, -, -, hg, hcell⟩ := hvn.cells (by rw [← Hnn.out]; omega)
              have d0 := (hcell L.length x HP4.out).1
              rw [HP5.out] at d0
              rw [← Hnl.out] at hl1 hvl d0 ⊢
              rw [← Hnm.out] at hm1 hvm ⊢
              rw [← Hnn.out] at hn1 hvn ⊢
              unfold maxLen at hl2 hm2 hn2
              have hfr := hvn.front nl (by rw [← Hnn.out]; omega)
              have hre := hvn.rest (nl + 1) (by rw [← Hnn.out]; omega)
              have HV1 := Lib.hid hvl
              have HV2 := Lib.hid hvm
              have HV3 := Lib.hid hfr
              have HV4 := Lib.hid hre
              clear hcell hvl hvm hvn hfr hre
              have z1 : (0 : Int) ≤ nl := by omega
              have z2 : (nl : Int) < nn := by omega
              have z3 : (nl : Int) ≤ capn := by omega
              have z4 : nl ≤ capn := by omega
              by_cases hcap : nl + 1 = capn
              · subst hcap
                go_wp2_with fail
                refine (alike_any _ _ 0 0 (N.take nl) L _ HV3.out HV1.out (by rw [Hnl.out]; exact HP2.out) (by rw [List.length_take]; omega)).mono ?_
                rintro e w5 ⟨rfl, hB5⟩
                have d1 : w5.cell? ⟨g, o + nl * 6, none⟩ = some (.int .i64 7) := (hB5.cell (p := ⟨g, o + nl * 6, none⟩) hg).trans d0
                have hm5 := HV2.out.below hB5
                have hM0 : M = [] := by
                  have h1 := HP1.out
                  have h2 := Hnn.out
                  have h3 := Hnl.out
                  exact List.length_eq_zero_iff.1 (by omega)
                have HM0 := Lib.hid hM0
                clear hM0
                go_wp2_with fail
                refine (alike_any _ _ 0 0 [] M _ (Toks.none_at w5 _ 0 (Nat.zero_le _) 0) hm5 (by rw [HM0.out]) (by simp)).mono ?_
                rintro e w6 ⟨rfl, hB6⟩
                replace hB6 := Below.then (Below.then hB4 hB5) hB6
                clear hB4 hB5 hm5 d0 d1
                go_wp2_with fail
                go_ret
                exact ⟨rfl, hB6⟩
              · have z5 : nl + 1 < capn := by omega
                go_wp2_with fail
                refine (alike_any _ _ 0 0 (N.take nl) L _ HV3.out HV1.out (by rw [Hnl.out]; exact HP2.out) (by rw [List.length_take]; omega)).mono ?_
                rintro e w5 ⟨rfl, hB5⟩
                have d1 : w5.cell? ⟨g, o + nl * 6, none⟩ = some (.int .i64 7) := (hB5.cell (p := ⟨g, o + nl * 6, none⟩) hg).trans d0
                have hm5 := HV2.out.below hB5
                have hr5 := HV4.out.below hB5
                go_wp2_with fail
                refine (alike_any _ _ 0 0 (N.drop (nl + 1)) M _ hr5 hm5 (by rw [Hnl.out]; exact HP3.out) (by rw [List.length_drop]; have := Hnn.out; omega)).mono ?_
                rintro e w6 ⟨rfl, hB6⟩
                replace hB6 := Below.then (Below.then hB4 hB5) hB6
                clear hB4 hB5 hm5 hr5 d0 d1
                go_wp2_with fail
                go_ret
                exact ⟨rfl, hB6⟩
      rcases hlast with h | ⟨h, hc⟩ | h
      · exact main (.inl h)
      · have t1 : ((a[a.size - 1].toNat : Int) == 92) = true := u8_eq hc
        have z0 : 1 ≤ (a.size : Int) := by omega
        clear main hc
        go_enter Tryd.func8, Tryd.ntmps8
        go_wp2_with fail
        refine (awake_any _ HG.out).mono ?_
        rintro e w1 ⟨rfl, hB1⟩
        go_wp2_with fail
        go_ret
        exact ⟨rfl, hB1⟩
      · exact main (.inr h)
    · go_enter Tryd.func8, Tryd.ntmps8
      go_wp2_with fail
      refine (awake_any _ HG.out).mono ?_
      rintro e w1 ⟨rfl, hB1⟩
      go_wp2_with fail
      go_ret
      exact ⟨rfl, hB1⟩
  · go_enter Tryd.func8, Tryd.ntmps8
    go_wp2_with fail
    refine (awake_any _ HG.out).mono ?_
    rintro e w1 ⟨rfl, hB1⟩
    go_wp2_with fail
    go_ret
    exact ⟨rfl, hB1⟩
end Go.Proofs.YtflmbmcfoigioaaDoor
