/- The document's own Tokens, what tpl8 had left out. (and what stands with it) -/
import Derived.Test.YtdopmmnabhcigaaGreatDoorGj

/- The document's own Tokens, what tpl8 had left out. -/
namespace Go.Proofs.YtdopmmnabhcigaaGreatDoor
open Go.RowKit Go.Shelf
open Lx (T)
set_option maxHeartbeats 8000000 in
set_option maxRecDepth 100000 in
theorem rnumber_any (s : ByteArray) (i : Nat) (hs : s.size ≤ 4000000000) (hi : i < s.size) (w : World) :
    Calls Tryz.prog 53 #[.string s, .int .i64 i] w fun e w' => e = .returned (.int .i64 (Lx.numLen (s.data.toList.drop i))) ∧ w = w' := by
  have hd := drop_at s i hi
  have hnl := Lx.numLen_cons s[i] (s.data.toList.drop (i + 1))
  rw [← hd, u8_beq, show ((46 : UInt8).toNat : Int) = 46 from rfl] at hnl
  have hyes : ∀ h1 : i + 1 < s.size, Lx.headDigit (s.data.toList.drop (i + 1)) = Lx.digit s[i + 1] := fun h1 => by rw [drop_at s (i + 1) h1]; rfl
  have hno : ¬ i + 1 < s.size → Lx.headDigit (s.data.toList.drop (i + 1)) = false := fun h1 => by rw [drop_end s (i + 1) (by omega)]; rfl
  obtain ⟨R, hR⟩ : ∃ R, R = Lx.numLen (s.data.toList.drop i) := ⟨_, rfl⟩
  rw [← hR] at hnl ⊢
  clear hR hd
  by_cases hN : (Lx.digit s[i] || (((s[i].toNat : Int) == 46) && Lx.headDigit (s.data.toList.drop (i + 1)))) = true
  · rw [if_pos hN] at hnl
    have hcase : Lx.digit s[i] = true ∨ (Lx.digit s[i] = false ∧ ((s[i].toNat : Int) == 46) = true ∧ ∃ h : i + 1 < s.size, Lx.digit s[i + 1] = true) := by
      cases hD : Lx.digit s[i] with
      | true => exact .inl rfl
      | false =>
        rw [hD, Bool.false_or, Bool.and_eq_true] at hN
        refine .inr ⟨rfl, hN.1, ?_⟩
        by_cases h1 : i + 1 < s.size
        · exact ⟨h1, by rw [← hyes h1]; exact hN.2⟩
        · have := hN.2; rw [hno h1] at this; cases this
    have HR := Lib.hid hnl
    have HC := Lib.hid hcase
    obtain ⟨D, hD⟩ : ∃ D, D = Lx.digit s[i] := ⟨_, rfl⟩
    have HD := Lib.hid hD
    clear hN hyes hno hnl hcase hD
    go_enter Tryz.func53, Tryz.ntmps53
    go_upto_region 2 with (go_at_call 83; refine (rdigit_any _ _).mono ?_; rintro e w' ⟨rfl, rfl⟩; rw [← HD.out])
    go_cut [35] (fun s35 wx => s35 = .bool false ∧ wx = w)
    case first =>
      rcases HC.out with h1 | ⟨h1, h2, h3, h4⟩
      all_goals
        obtain rfl := HD.out.trans h1
        clear h1
        go_wp2_with (go_at_call 83; refine (rdigit_any _ _).mono ?_; rintro e w' ⟨rfl, rfl⟩)
        go_meet
        exact ⟨rfl, rfl⟩
    case rest =>
      obtain ⟨rfl, rfl⟩ := hcut
      go_wp2_with fail
      go_loop [6] (fun n => ∃ k : Nat, n = .int .i64 k ∧ 1 ≤ k ∧ i + k ≤ s.size ∧ R = k + Lx.numRest (s.data.toList.drop (i + k))) (fun n => s.size - (intOf n).toNat)
      case atStart => exact ⟨1, rfl, Nat.le_refl _, by omega, HR.out⟩
      case round =>
        obtain ⟨k, rfl, hk1, hk, he⟩ := hrel
        by_cases hlt : i + k < s.size
        · obtain ⟨q1, q2, q3⟩ := num_step s i k R hlt he
          have HQ1 := Lib.hid q1
          have HQ2 := Lib.hid q2
          have HQ3 := Lib.hid q3
          obtain ⟨SG, hSG⟩ : ∃ SG, SG = sgAt s (i + k) := ⟨_, rfl⟩
          obtain ⟨X, hX⟩ : ∃ X, X = expo (s.data.toList.drop (i + k)) := ⟨_, rfl⟩
          have hXE : X = (Lx.isE s[i + k] && SG) := by rw [hX, hSG, expo_sg s (i + k) hlt]
          have HX := Lib.hid hX
          have HSG := Lib.hid hSG
          have HXE := Lib.hid hXE
          clear q1 q2 q3 he hX hSG hXE
          go_upto_region 7 with (fail)
          go_cut [8] (fun s8 wx => s8 = .bool SG ∧ wx = wc)
          case first =>
            rcases sg_cases s (i + k) with ⟨x0, x1⟩ | ⟨x0, x1, x2⟩ | ⟨x0, x1, x2, x3⟩ | ⟨x0, x1, x2, x3⟩
            all_goals
              rw [← HSG.out] at x0
              have HX0 := Lib.hid x0
              clear x0
              go_wp2_with fail
              go_meet
              exact ⟨by rw [HX0.out], rfl⟩
          case rest =>
            obtain ⟨rfl, rfl⟩ := hcut
            go_upto_region 8 with (fail)
            go_cut [88] (fun s88 wx => s88 = .bool X ∧ wx = wc)
            case first =>
              have hxe := HXE.out
              cases hE : Lx.isE s[i + k] with
              | true =>
                rw [hE, Bool.true_and] at hxe
                have HH := Lib.hid hxe
                rcases isE_cases _ hE with y1 | ⟨y1, y2⟩ | ⟨y1, y2, y3⟩ | ⟨y1, y2, y3, y4⟩
                all_goals
                  clear hE hxe
                  go_wp2_with fail
                  go_meet
                  exact ⟨by rw [HH.out], rfl⟩
              | false =>
                rw [hE, Bool.false_and] at hxe
                have HH := Lib.hid hxe
                obtain ⟨y1, y2, y3, y4⟩ := isE_none _ hE
                clear hE hxe
                go_wp2_with fail
                go_meet
                exact ⟨by rw [HH.out], rfl⟩
            case rest =>
              obtain ⟨rfl, rfl⟩ := hcut
              cases hXX : X with
              | true =>
                have HY := Lib.hid (HQ1.out (by rw [← HX.out]; exact hXX))
                clear hXX
                go_wp2_with fail
                go_round
                case rel => exact ⟨k + 2, by go_num, by omega, by have := HY.out.1; omega, HY.out.2⟩
                case measure => simp [intOf]; omega
              | false =>
                have HXX := Lib.hid (HX.out.symm.trans hXX)
                clear hXX
                rcases numc_cases s[i + k] with ⟨y0, y1 | ⟨y1, y2⟩ | ⟨y1, y2, y3⟩⟩ | ⟨y0, y1, y2, y3⟩
                · have HY := Lib.hid (HQ2.out HXX.out y0)
                  clear y0
                  go_wp2_with (first | (go_at_call 82; refine (rletter_any _ _).mono ?_; rintro e w' ⟨rfl, rfl⟩) | (go_at_call 83; refine (rdigit_any _ _).mono ?_; rintro e w' ⟨rfl, rfl⟩))
                  go_round
                  case rel => exact ⟨k + 1, by go_num, by omega, by omega, HY.out⟩
                  case measure => simp [intOf]; omega
                · have HY := Lib.hid (HQ2.out HXX.out y0)
                  clear y0
                  go_wp2_with (first | (go_at_call 82; refine (rletter_any _ _).mono ?_; rintro e w' ⟨rfl, rfl⟩) | (go_at_call 83; refine (rdigit_any _ _).mono ?_; rintro e w' ⟨rfl, rfl⟩))
                  go_round
                  case rel => exact ⟨k + 1, by go_num, by omega, by omega, HY.out⟩
                  case measure => simp [intOf]; omega
                · have HY := Lib.hid (HQ2.out HXX.out y0)
                  have y4 : ((s[i + k].toNat : Int) != 46) = false := by simp [bne, y3]
                  clear y0
                  go_wp2_with (first | (go_at_call 82; refine (rletter_any _ _).mono ?_; rintro e w' ⟨rfl, rfl⟩) | (go_at_call 83; refine (rdigit_any _ _).mono ?_; rintro e w' ⟨rfl, rfl⟩))
                  go_round
                  case rel => exact ⟨k + 1, by go_num, by omega, by omega, HY.out⟩
                  case measure => simp [intOf]; omega
                · have HY := Lib.hid (HQ3.out HXX.out y0)
                  have y4 : ((s[i + k].toNat : Int) != 46) = true := by simp [bne, y3]
                  clear y0
                  go_wp2_with (first | (go_at_call 82; refine (rletter_any _ _).mono ?_; rintro e w' ⟨rfl, rfl⟩) | (go_at_call 83; refine (rdigit_any _ _).mono ?_; rintro e w' ⟨rfl, rfl⟩))
                  go_ret
                  exact ⟨ret_int (by rw [HY.out]), rfl⟩
        · have HE := Lib.hid he
          clear he
          go_wp2_with fail
          go_ret
          exact ⟨ret_int (by rw [HE.out, drop_end s (i + k) (by omega)]; simp [Lx.numRest]), rfl⟩
  · rw [if_neg hN] at hnl
    subst hnl
    have hcase : (Lx.digit s[i] = false ∧ ((s[i].toNat : Int) == 46) = false) ∨ (Lx.digit s[i] = false ∧ ((s[i].toNat : Int) == 46) = true ∧ ¬ i + 1 < s.size) ∨ (Lx.digit s[i] = false ∧ ((s[i].toNat : Int) == 46) = true ∧ ∃ h : i + 1 < s.size, Lx.digit s[i + 1] = false) := by
      cases hD : Lx.digit s[i] with
      | true => rw [hD] at hN; simp at hN
      | false =>
        rw [hD, Bool.false_or] at hN
        cases h46 : ((s[i].toNat : Int) == 46) with
        | false => exact .inl ⟨rfl, rfl⟩
        | true =>
          rw [h46, Bool.true_and] at hN
          by_cases h1 : i + 1 < s.size
          · rw [hyes h1] at hN
            exact .inr (.inr ⟨rfl, rfl, h1, by simpa using hN⟩)
          · exact .inr (.inl ⟨rfl, rfl, h1⟩)
    clear hN hyes hno
    rcases hcase with ⟨h1, h2⟩ | ⟨h1, h2, h3⟩ | ⟨h1, h2, h3, h4⟩
    all_goals
      go_enter Tryz.func53, Tryz.ntmps53
      go_wp2_with (go_at_call 83; refine (rdigit_any _ _).mono ?_; rintro e w' ⟨rfl, rfl⟩)
      go_ret
      exact ⟨rfl, rfl⟩
end Go.Proofs.YtdopmmnabhcigaaGreatDoor

/- The document's own Tokens, what tpl8 had left out. -/
namespace Go.Proofs.YtdopmmnabhcigaaGreatDoor
open Go.RowKit Go.Shelf
open Lx (T)
set_option maxHeartbeats 4000000 in
set_option maxRecDepth 100000 in
theorem quoted_any (s : ByteArray) (i : Nat) (hs : s.size ≤ 4000000000) (hi : i < s.size) (q : UInt8) (hq1 : q ≠ 10) (hq2 : q ≠ 92) (w : World) :
    Calls Tryz.prog 54 #[.string s, .int .i64 i, .int .u8 q.toNat] w fun e w' => e = .returned (.int .i64 (rq q (s.data.toList.drop i))) ∧ w = w' := by
  have hd0 := drop_at s i hi
  obtain ⟨Z, hZ⟩ : ∃ Z, Z = Lx.closedLen q (s.data.toList.drop i) := ⟨_, rfl⟩
  obtain ⟨R, hR⟩ : ∃ R, R = rq q (s.data.toList.drop i) := ⟨_, rfl⟩
  rw [← hR]
  unfold rq at hR
  rw [← hZ] at hR
  have HR := Lib.hid hR
  clear hR
  by_cases hq : s[i] = q
  · have hcl : Z = Lx.upto 1 (Lx.qr q (s.data.toList.drop (i + 1))) := by
      rw [hZ]
      conv => lhs; rw [hd0]
      rw [Lx.closedLen_cons, if_pos hq]
    have HZ := Lib.hid hcl
    have t0 : ((s[i].toNat : Int) == (q.toNat : Int)) = true := u8_eq hq
    have t0' : ((s[i].toNat : Int) != (q.toNat : Int)) = false := by simp [bne, t0]
    clear hcl hd0 hq hZ
    go_enter Tryz.func54, Tryz.ntmps54
    go_wp2_with fail
    go_loop [7] (fun n => ∃ k : Nat, n = .int .i64 k ∧ 1 ≤ k ∧ i + k ≤ s.size ∧ Z = Lx.upto k (Lx.qr q (s.data.toList.drop (i + k)))) (fun n => s.size - (intOf n).toNat)
    case atStart => exact ⟨1, rfl, Nat.le_refl _, by omega, HZ.out⟩
    case round =>
      obtain ⟨k, rfl, hk1, hk, he⟩ := hrel
      have HE := Lib.hid he
      clear he t0 t0'
      by_cases hlt : i + k < s.size
      · have hd := Lib.hid (drop_at s (i + k) hlt)
        by_cases hnl : s[i + k] = 10
        · have t1 : ((s[i + k].toNat : Int) == 10) = true := u8_eq hnl
          have t2 : ((s[i + k].toNat : Int) != 10) = false := by simp [bne, t1]
          have HN := Lib.hid hnl
          clear hnl
          go_wp2_with fail
          go_ret
          refine ⟨ret_int ?_, rfl⟩
          have hz : Z = 0 := by rw [HE.out, hd.out, HN.out, qr_nl]; rfl
          rw [HR.out, hz]; simp
        · have t1 : ((s[i + k].toNat : Int) == 10) = false := u8_ne hnl
          have t2 : ((s[i + k].toNat : Int) != 10) = true := by simp [bne, t1]
          by_cases hqq : s[i + k] = q
          · have t3 : ((s[i + k].toNat : Int) == (q.toNat : Int)) = true := u8_eq hqq
            have hz : Z = k + 1 := by rw [HE.out, hd.out, hqq, qr_hit q _ hq1]; rfl
            have HN := Lib.hid hz
            clear hnl hqq hz
            by_cases h39 : q = 39
            · have t4 : ((q.toNat : Int) == 39) = true := u8_eq h39
              have H39 := Lib.hid h39
              clear h39
              by_cases hk2 : k = 1
              · have t5 : ((k : Int) == 1) = true := by rw [hk2]; rfl
                have HK := Lib.hid hk2
                clear hk2
                go_wp2_with fail
                go_ret
                exact ⟨ret_int (by rw [HR.out, if_pos ⟨H39.out, by rw [HN.out, HK.out]⟩]; rfl), rfl⟩
              · have t5 : ((k : Int) == 1) = false := by rw [beq_eq_false_iff_ne]; omega
                go_wp2_with fail
                go_ret
                exact ⟨ret_int (by rw [HR.out, if_neg (fun h => by have := h.2; rw [HN.out] at this; omega), HN.out]; simp), rfl⟩
            · have t4 : ((q.toNat : Int) == 39) = false := u8_ne h39
              have H39 := Lib.hid h39
              clear h39
              have hx : ((k : Int) == 1) = true ∨ ((k : Int) == 1) = false := by cases ((k : Int) == 1) <;> simp
              rcases hx with t5 | t5
              all_goals
                go_wp2_with fail
                go_ret
                exact ⟨ret_int (by rw [HR.out, if_neg (fun h => H39.out h.1), HN.out]; simp), rfl⟩
          · have t3 : ((s[i + k].toNat : Int) == (q.toNat : Int)) = false := u8_ne hqq
            by_cases hbs : s[i + k] = 92
            · have t4 : ((s[i + k].toNat : Int) == 92) = true := u8_eq hbs
              have HB := Lib.hid hbs
              clear hbs hnl hqq
              by_cases hl2 : i + k + 1 < s.size
              · have hd2 := Lib.hid (drop_at s (i + k + 1) hl2)
                have hx2 : s[i + k + 1] = s[i + (k + 1)] := rfl
                by_cases hn2 : s[i + (k + 1)] = 10
                · have t5 : ((s[i + (k + 1)].toNat : Int) == 10) = true := u8_eq hn2
                  have hz : Z = 0 := by rw [HE.out, hd.out, HB.out, hd2.out, hx2, hn2, qr_esc_nl q _ hq2]; rfl
                  have HN := Lib.hid hz
                  clear hn2 hx2 hz
                  go_wp2_with fail
                  go_ret
                  exact ⟨ret_int (by rw [HR.out, HN.out]; simp), rfl⟩
                · have t5 : ((s[i + (k + 1)].toNat : Int) == 10) = false := u8_ne hn2
                  have hz : Z = Lx.upto (k + 2) (Lx.qr q (s.data.toList.drop (i + (k + 2)))) := by
                    rw [HE.out, hd.out, HB.out, hd2.out, hx2, qr_esc q _ _ hq2 hn2, upto_map, show i + (k + 2) = i + k + 1 + 1 by omega]
                  have HN := Lib.hid hz
                  clear hn2 hx2 hz
                  go_wp2_with fail
                  go_round
                  case rel => exact ⟨k + 2, by go_num, by omega, by omega, HN.out⟩
                  case measure => simp [intOf]; omega
              · have hd2 := Lib.hid (drop_end s (i + k + 1) (by omega))
                have hz : Z = 0 := by rw [HE.out, hd.out, HB.out, hd2.out, qr_esc_end q hq2]; rfl
                have HN := Lib.hid hz
                clear hz
                go_wp2_with fail
                go_ret
                exact ⟨ret_int (by rw [HR.out, HN.out]; simp), rfl⟩
            · have t4 : ((s[i + k].toNat : Int) == 92) = false := u8_ne hbs
              have HN := Lib.hid (And.intro hnl (And.intro hqq hbs))
              clear hnl hqq hbs
              go_wp2_with fail
              go_round
              case rel => exact ⟨k + 1, by go_num, by omega, by omega, by rw [HE.out, hd.out, qr_on q _ _ HN.out.1 HN.out.2.1 HN.out.2.2, upto_map, show i + (k + 1) = i + k + 1 by omega]⟩
              case measure => simp [intOf]; omega
      · go_wp2_with fail
        go_ret
        refine ⟨ret_int ?_, rfl⟩
        have hz : Z = 0 := by rw [HE.out, drop_end s (i + k) (by omega)]; rfl
        rw [HR.out, hz]; simp
  · have hcl : Z = 0 := by rw [hZ, hd0, Lx.closedLen_cons, if_neg hq]
    have hr : R = 0 := by rw [HR.out, hcl]; simp
    subst hr
    have t0 : ((s[i].toNat : Int) == (q.toNat : Int)) = false := u8_ne hq
    have t0' : ((s[i].toNat : Int) != (q.toNat : Int)) = true := by simp [bne, t0]
    clear hcl hd0 hq hZ HR
    go_enter Tryz.func54, Tryz.ntmps54
    go_wp2_with fail
    go_ret
    exact ⟨rfl, rfl⟩


set_option maxHeartbeats 4000000 in
set_option maxRecDepth 100000 in
theorem rsign_any (s : ByteArray) (i : Nat) (hs : s.size ≤ 4000000000) (hi : i < s.size) (w : World) :
    Calls Tryz.prog 55 #[.string s, .int .i64 i] w fun e w' => e = .returned (.int .i64 (Lx.signLen (s.data.toList.drop i))) ∧ Below w.heap.size w w' := by
  rw [Lx.sign_ref]
  obtain ⟨l, hl⟩ : ∃ l, l = s.data.toList.drop i := ⟨_, rfl⟩
  have hlh : l = s[i] :: s.data.toList.drop (i + 1) := by rw [hl]; exact drop_at s i hi
  obtain ⟨R, hR⟩ : ∃ R, R = Lx.refSign l := ⟨_, rfl⟩
  rw [← hl, ← hR]
  have HL := Lib.hid hl
  have HLH := Lib.hid hlh
  have HR := Lib.hid hR
  clear hl hlh hR
  go_enter Tryz.func55, Tryz.ntmps55
  go_wp2_with fail
  generalize hW0 : (w.alloc _).alloc _ = W0
  generalize hO : (ByteArray.mk #[91, 93, 40, 41, 123, 125, 46, 38, 42, 43, 45, 126, 33, 47, 37, 60, 62, 94, 124, 63, 58, 59, 61, 44, 35]) = O
  have hB0 : Below w.heap.size w W0 := by rw [← hW0]; exact ((Below.refl _ w).alloc (Nat.le_refl _) _).alloc (by simp) _
  have h3 : Strs W0 w.heap.size Lx.threes := by
    intro k x hx
    rw [← hW0, cell_of_row _ _ k _ 9 (0, 0) ((Lib.alloc_old (w.alloc _) _ w.heap.size (by simp)).trans (heap_alloc_new w _))]
    show ((Lx.threes.map fun s => Value.string ⟨s.toArray⟩).toArray)[k]? = _
    rw [List.getElem?_toArray, List.getElem?_map, hx]; rfl
  have h2 : Strs W0 (w.heap.size + 1) Lx.twos := by
    intro k x hx
    rw [← hW0, cell_of_row _ _ k _ 9 (0, 0) (by have := heap_alloc_new (w.alloc (.cells #[.string ⟨#[46, 46, 46]⟩, .string ⟨#[60, 60, 61]⟩, .string ⟨#[62, 62, 61]⟩] 9)) (.cells (Lx.twos.map fun s => Value.string ⟨s.toArray⟩).toArray 9); rw [World.size_alloc] at this; exact this)]
    rw [List.getElem?_toArray, List.getElem?_map, hx]; rfl
  have h1 : O.data.toList = Lx.oneBytes := by rw [← hO]; rfl
  have hOs : O.size = 25 := by rw [← hO]; rfl
  have H3 := Lib.hid h3
  have H2 := Lib.hid h2
  have H1 := Lib.hid h1
  have HB0 := Lib.hid hB0
  have HOs := Lib.hid hOs
  clear hW0 hO h3 h2 h1 hB0 hOs
  go_loop [8] (fun n => ∃ k : Nat, n = .int .i64 k ∧ k ≤ 3 ∧ (Lx.threes.take k).any (·.isPrefixOf l) = false) (fun n => 3 - (intOf n).toNat)
  case atStart => exact ⟨0, rfl, by omega, rfl⟩
  case round =>
    obtain ⟨k, rfl, hk, hno⟩ := hrel
    have HN := Lib.hid hno
    clear hno
    by_cases hlt : k < 3
    · have hlt' : k < Lx.threes.length := hlt
      have hc := H3.out k _ (List.getElem?_eq_getElem hlt')
      have hlen : ∀ x ∈ Lx.threes, x.length = 3 := by decide
      have hxl := hlen _ (List.getElem_mem hlt')
      have hstep := any_take_succ Lx.threes l k hlt'
      obtain ⟨P, hP⟩ : ∃ P : ByteArray, P = ⟨(Lx.threes[k]).toArray⟩ := ⟨_, rfl⟩
      have hPl : P.data.toList = Lx.threes[k] := by rw [hP]
      have hPs : P.size = 3 := by rw [hP, mk_size]; exact hxl
      rw [← hP] at hc
      have HPl := Lib.hid hPl
      have HPs := Lib.hid hPs
      have HS := Lib.hid hstep
      clear hP hPl hPs hlen hxl hstep
      have z0 : (0 : Int) ≤ k := by omega
      have z1 : (k : Int) < 3 := by omega
      cases hb : (Lx.threes[k]).isPrefixOf l with
      | true =>
        have HBb := Lib.hid hb
        clear hb
        go_wp2_with fail
        refine (is_any s P i hs (by omega) (by rw [HPs.out]; omega) (by rw [HPs.out]; omega) _).mono ?_
        rintro e w' ⟨rfl, rfl⟩
        rw [← HL.out, HPl.out, HBb.out]
        go_wp2_with fail
        go_ret
        refine ⟨ret_int ?_, HB0.out⟩
        have : Lx.threes.any (·.isPrefixOf l) = true := List.any_eq_true.2 ⟨_, List.getElem_mem hlt', HBb.out⟩
        rw [HR.out]
        unfold Lx.refSign
        rw [if_pos this]
        rfl
      | false =>
        have HBb := Lib.hid hb
        clear hb
        go_wp2_with fail
        refine (is_any s P i hs (by omega) (by rw [HPs.out]; omega) (by rw [HPs.out]; omega) _).mono ?_
        rintro e w' ⟨rfl, rfl⟩
        rw [← HL.out, HPl.out, HBb.out]
        go_wp2_with fail
        go_round
        case rel => exact ⟨k + 1, by go_num, by omega, by rw [HS.out, HN.out, HBb.out]; rfl⟩
        case measure => simp [intOf]; omega
    · have hk3 : k = 3 := by omega
      subst hk3
      have H33 : Hid (Lx.threes.any (·.isPrefixOf l) = false) := HN
      clear HN H3
      go_wp2_with fail
      go_loop [10] (fun n => ∃ k : Nat, n = .int .i64 k ∧ k ≤ 20 ∧ (Lx.twos.take k).any (·.isPrefixOf l) = false) (fun n => 20 - (intOf n).toNat)
      case atStart => exact ⟨0, rfl, by omega, rfl⟩
      case round =>
        obtain ⟨k, rfl, hk, hno⟩ := hrel
        have HN := Lib.hid hno
        clear hno
        by_cases hlt : k < 20
        · have hlt' : k < Lx.twos.length := hlt
          have hc := H2.out k _ (List.getElem?_eq_getElem hlt')
          have hlen : ∀ x ∈ Lx.twos, x.length = 2 := by decide
          have hxl := hlen _ (List.getElem_mem hlt')
          have hstep := any_take_succ Lx.twos l k hlt'
          obtain ⟨P, hP⟩ : ∃ P : ByteArray, P = ⟨(Lx.twos[k]).toArray⟩ := ⟨_, rfl⟩
          have hPl : P.data.toList = Lx.twos[k] := by rw [hP]
          have hPs : P.size = 2 := by rw [hP, mk_size]; exact hxl
          rw [← hP] at hc
          have HPl := Lib.hid hPl
          have HPs := Lib.hid hPs
          have HS := Lib.hid hstep
          clear hP hPl hPs hlen hxl hstep
          have z0 : (0 : Int) ≤ k := by omega
          have z1 : (k : Int) < 20 := by omega
          cases hb : (Lx.twos[k]).isPrefixOf l with
          | true =>
            have HBb := Lib.hid hb
            clear hb
            go_wp2_with fail
            refine (is_any s P i hs (by omega) (by rw [HPs.out]; omega) (by rw [HPs.out]; omega) _).mono ?_
            rintro e w' ⟨rfl, rfl⟩
            rw [← HL.out, HPl.out, HBb.out]
            go_wp2_with fail
            go_ret
            refine ⟨ret_int ?_, HB0.out⟩
            have h2t : Lx.twos.any (·.isPrefixOf l) = true := List.any_eq_true.2 ⟨_, List.getElem_mem hlt', HBb.out⟩
            rw [HR.out]
            unfold Lx.refSign
            rw [if_neg (by rw [H33.out]; simp), if_pos h2t]
            rfl
          | false =>
            have HBb := Lib.hid hb
            clear hb
            go_wp2_with fail
            refine (is_any s P i hs (by omega) (by rw [HPs.out]; omega) (by rw [HPs.out]; omega) _).mono ?_
            rintro e w' ⟨rfl, rfl⟩
            rw [← HL.out, HPl.out, HBb.out]
            go_wp2_with fail
            go_round
            case rel => exact ⟨k + 1, by go_num, by omega, by rw [HS.out, HN.out, HBb.out]; rfl⟩
            case measure => simp [intOf]; omega
        · have hk20 : k = 20 := by omega
          subst hk20
          have H22 : Hid (Lx.twos.any (·.isPrefixOf l) = false) := HN
          clear HN H2
          have hbo : O.size ≤ 25 := by rw [HOs.out]; omega
          go_wp2_with fail
          go_loopw [12] (fun n wx => ∃ k : Nat, n = .int .i64 k ∧ k ≤ O.size ∧ (Lx.ones.take k).any (·.isPrefixOf l) = false ∧ Below w.heap.size w wx) (fun n _ => O.size - (intOf n).toNat)
          case atStart => exact ⟨0, rfl, by omega, rfl, HB0.out⟩
          case round =>
            obtain ⟨k, rfl, hk, hno, hB⟩ := hrel
            have HN := Lib.hid hno
            clear hno
            by_cases hlt : k < O.size
            · have hlt' : k < Lx.ones.length := by have := HOs.out; show k < 25; omega
              have hstep := any_take_succ Lx.ones l k hlt'
              have hok : Lx.ones[k] = [O[k]] := by
                have e : Lx.ones[k] = [Lx.oneBytes[k]'(by simpa [Lx.ones] using hlt')] := by simp [Lx.ones]
                rw [e]
                congr 1
                have e2 : O.data.toList[k]? = some O[k] := by rw [List.getElem?_eq_getElem (by rw [size_list]; exact hlt)]; rfl
                rw [H1.out] at e2
                exact (List.getElem?_eq_some_iff.1 e2).2
              have hpre : (Lx.ones[k]).isPrefixOf l = decide (s[i] = O[k]) := by
                rw [hok, HLH.out, Bool.eq_iff_iff]
                simp only [List.isPrefixOf, Bool.and_true, beq_iff_eq, decide_eq_true_iff]
                exact ⟨fun h => h.symm, fun h => h.symm⟩
              rw [hpre] at hstep
              have z0 : (0 : Int) ≤ k := by omega
              have z1 : (k : Int) < O.size := by omega
              have z2 : (0 : Int) ≤ i := by omega
              have z3 : (i : Int) < s.size := by omega
              by_cases he : s[i] = O[k]
              · have t1 : ((s[i].toNat : Int) == (O[k].toNat : Int)) = true := u8_eq he
                rw [decide_eq_true he] at hpre
                have HP := Lib.hid hpre
                clear hpre hstep he hok
                go_wp2_with fail
                go_quiet (fail)
                go_wp2_with fail
                go_ret
                refine ⟨ret_int ?_, below_drewN hB _⟩
                have h1t : Lx.ones.any (·.isPrefixOf l) = true := List.any_eq_true.2 ⟨_, List.getElem_mem hlt', HP.out⟩
                rw [HR.out]
                unfold Lx.refSign
                rw [if_neg (by rw [H33.out]; simp), if_neg (by rw [H22.out]; simp), if_pos h1t]
                rfl
              · have t1 : ((s[i].toNat : Int) == (O[k].toNat : Int)) = false := u8_ne he
                rw [decide_eq_false he] at hstep
                have HS := Lib.hid hstep
                clear hpre hstep he hok
                go_wp2_with fail
                go_quiet (fail)
                go_wp2_with fail
                go_roundw
                case rel => exact ⟨k + 1, by go_num, by omega, by rw [HS.out, HN.out]; rfl, below_drewN hB _⟩
                case measure => simp [intOf]; omega
            · have hk25 : k = 25 := by have := HOs.out; omega
              subst hk25
              have H11 : Lx.ones.any (·.isPrefixOf l) = false := HN.out
              have hr : R = 0 := by
                rw [HR.out]
                unfold Lx.refSign
                rw [if_neg (by rw [H33.out]; simp), if_neg (by rw [H22.out]; simp), if_neg (by rw [H11]; simp)]
              have Hr := Lib.hid hr
              clear H11 hr
              go_wp2_with fail
              go_ret
              exact ⟨ret_int (by rw [Hr.out]; rfl), hB⟩
end Go.Proofs.YtdopmmnabhcigaaGreatDoor
