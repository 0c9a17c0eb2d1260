/- What is proved: what Unquote tells. -/
import Derived.Test.YtlkcmegjbdibcaaDoorV5
import Derived.Test.YtlkcmegjbdibcaaDoorBld
namespace Go.Proofs.YtlkcmegjbdibcaaDoor
open Go.RowKit Go.Shelf

set_option maxRecDepth 100000 in
set_option maxHeartbeats 4000000 in
theorem gunquote_any (s : ByteArray) (w : World) (hs : s.size ≤ 1000000000) :
    Calls Tryd.prog 15 #[.string s] w fun e w' => e = .returned (unqOut (Gl.unquote s.data.toList)) ∧ Below w.heap.size w w' := by
  by_cases h2 : s.size < 2
  · have he : Gl.unquote s.data.toList = none := by unfold Gl.unquote; rw [if_neg (fun h => by have := h.1; rw [size_list] at this; omega)]
    rw [he]
    have y1 : decide ((s.size : Int) - 1 < 1) = true := decide_eq_true (by omega)
    go_enter Tryd.func15, Tryd.ntmps15
    go_wp2_with fail
    go_ret2
    exact ⟨rfl, Below.refl _ _⟩
  · have y1 : decide ((s.size : Int) - 1 < 1) = false := decide_eq_false (by omega)
    have h0 : 0 < s.size := by omega
    have g0 : s.data.toList.length = s.size := size_list s
    have hh : s.data.toList.head? = some s[0] := by
      rw [List.head?_eq_getElem?, List.getElem?_eq_getElem (by omega)]; rfl
    have hlast : s.data.toList.getLast? = some (s[s.size - 1]'(by omega)) := by
      rw [List.getLast?_eq_getElem?, List.getElem?_eq_getElem (by omega)]
      congr 1
    have hu : Gl.unquote s.data.toList = if s[0] = 34 ∧ s[s.size - 1]'(by omega) = 34 then Gl.unq ((s.data.toList.drop 1).dropLast) else none := by
      unfold Gl.unquote
      rw [hh, hlast, g0]
      simp [show 2 ≤ s.size by omega]
    obtain ⟨M, hM⟩ : ∃ M, M = (s.data.toList.drop 1).dropLast := ⟨_, rfl⟩
    rw [← hM] at hu
    have HM := Lib.hid hM
    have HU := Lib.hid hu
    clear hu hM hh hlast
    by_cases c0 : s[0] = 34
    · have z0 : ((s[0].toNat : Int) != 34) = false := by rw [bne, show ((s[0].toNat : Int) == 34) = true from u8_eq c0]; rfl
      by_cases c1 : s[s.size - 1]'(by omega) = 34
      · have hU : Gl.unquote s.data.toList = Gl.unq M := by rw [HU.out, if_pos ⟨c0, c1⟩]
        rw [hU]
        have z1 : (((s[s.size - 1]'(by omega)).toNat : Int) != 34) = false := by rw [bne, show (((s[s.size - 1]'(by omega)).toNat : Int) == 34) = true from u8_eq c1]; rfl
        go_enter Tryd.func15, Tryd.ntmps15
        go_wp2_with fail
        go_loopw [6] (fun i wr => ∃ (j : Nat) (acc : List UInt8), i = .int .i64 ((j + 1 : Nat) : Int) ∧ j + 2 ≤ s.size ∧ Bld w.heap.size acc wr ∧ Below w.heap.size w wr ∧ acc.length ≤ j ∧ Gl.Way M acc j) (fun i _ => s.size - (intOf i).toNat)
        case atStart => exact ⟨0, [], rfl, by omega, Bld.new w, (Below.refl _ w).alloc (Nat.le_refl _) _, Nat.le_refl _, Gl.Way.start M⟩
        case round =>
          obtain ⟨j, acc, rfl, hj, hb, hB, ha, hW⟩ := hrel
          have HW := Lib.hid hW
          have HA := Lib.hid ha
          have HBL := Lib.hid hb
          have HB := Lib.hid hB
          clear hW ha hb hB
          by_cases hlt : j + 2 < s.size
          · have hMj : M[j]? = some (s[j + 1]'(by omega)) := by rw [HM.out]; exact mid_get s j hlt
            have HMJ := Lib.hid hMj
            have hml : M.length = s.size - 2 := by rw [HM.out]; exact mid_len s
            have HML := Lib.hid hml
            clear hMj hml
            have y2 : ((j + 1 : Nat) : Int) < (s.size : Int) - 1 := by omega
            by_cases c2 : s[j + 1]'(by omega) = 34
            · have t1 : (((s[j + 1]'(by omega)).toNat : Int) == 34) = true := u8_eq c2
              have hN : Gl.unq M = none := HW.out.quote (by rw [HMJ.out, c2])
              have HN := Lib.hid hN
              clear hN c2
              go_wp2_with fail
              go_ret2
              exact ⟨by rw [HN.out]; rfl, HB.out⟩
            · have t1 : (((s[j + 1]'(by omega)).toNat : Int) == 34) = false := u8_ne c2
              by_cases c3 : s[j + 1]'(by omega) = 92
              · have t2 : (((s[j + 1]'(by omega)).toNat : Int) == 92) = true := u8_eq c3
                by_cases c4 : j + 3 = s.size
                · have hN : Gl.unq M = none := HW.out.last (by rw [HMJ.out, c3]) (by rw [HML.out]; omega)
                  have HN := Lib.hid hN
                  have t3 : (((j + 1 : Nat) : Int) + 1 == (s.size : Int) - 1) = true := by rw [beq_iff_eq]; omega
                  clear hN c2 c3 c4
                  go_wp2_with fail
                  go_ret2
                  exact ⟨by rw [HN.out]; rfl, HB.out⟩
                · have t3 : (((j + 1 : Nat) : Int) + 1 == (s.size : Int) - 1) = false := by rw [beq_eq_false_iff_ne]; omega
                  have hNX : Gl.Way M (acc ++ [s[j + 2]'(by omega)]) (j + 2) := HW.out.pair (by rw [HMJ.out, c3]) (by rw [HM.out]; exact mid_get s (j + 1) (by omega))
                  have HNX := Lib.hid hNX
                  have hb4 : j + 4 ≤ s.size := by omega
                  clear hNX c2 c3 c4
                  go_wp2_with fail
                  refine (wbyte_any w.heap.size acc (s[j + 2]'(by omega)) _ HBL.out (by have := HA.out; omega)).mono ?_
                  rintro e W2 ⟨rfl, b2, hB2⟩
                  have HB2 := Lib.hid (HB.out.trans hB2)
                  have B2 := Lib.hid b2
                  clear b2 hB2
                  go_wp2_with fail
                  go_roundw
                  case rel => exact ⟨j + 2, _, by go_num, by omega, B2.out, HB2.out, by have := HA.out; simp; omega, HNX.out⟩
                  case measure => simp [intOf]; omega
              · have t2 : (((s[j + 1]'(by omega)).toNat : Int) == 92) = false := u8_ne c3
                have hNX : Gl.Way M (acc ++ [s[j + 1]'(by omega)]) (j + 1) := HW.out.one HMJ.out c2 c3
                have HNX := Lib.hid hNX
                clear hNX c2 c3
                go_wp2_with fail
                refine (wbyte_any w.heap.size acc (s[j + 1]'(by omega)) _ HBL.out (by have := HA.out; omega)).mono ?_
                rintro e W2 ⟨rfl, b2, hB2⟩
                have HB2 := Lib.hid (HB.out.trans hB2)
                have B2 := Lib.hid b2
                clear b2 hB2
                go_wp2_with fail
                go_roundw
                case rel => exact ⟨j + 1, _, by go_num, by omega, B2.out, HB2.out, by have := HA.out; simp; omega, HNX.out⟩
                case measure => simp [intOf]; omega
          · have y2 : ¬ ((j + 1 : Nat) : Int) < (s.size : Int) - 1 := by omega
            have hN : Gl.unq M = some acc := HW.out.fin (by rw [HM.out, mid_len]; omega)
            have HN := Lib.hid hN
            clear hN
            go_wp2_with fail
            refine (bstring_any w.heap.size w.heap.size acc _ HBL.out HB.out.size).mono ?_
            rintro e W2 ⟨rfl, hB2⟩
            go_wp2_with fail
            go_ret2
            exact ⟨by rw [HN.out]; rfl, HB.out.trans hB2⟩
      · have hU : Gl.unquote s.data.toList = none := by rw [HU.out, if_neg (fun h => c1 h.2)]
        rw [hU]
        have z1 : (((s[s.size - 1]'(by omega)).toNat : Int) != 34) = true := by rw [bne, show (((s[s.size - 1]'(by omega)).toNat : Int) == 34) = false from u8_ne c1]; rfl
        go_enter Tryd.func15, Tryd.ntmps15
        go_wp2_with fail
        go_ret2
        exact ⟨rfl, Below.refl _ _⟩
    · have hU : Gl.unquote s.data.toList = none := by rw [HU.out, if_neg (fun h => c0 h.1)]
      rw [hU]
      have z0 : ((s[0].toNat : Int) != 34) = true := by rw [bne, show ((s[0].toNat : Int) == 34) = false from u8_ne c0]; rfl
      go_enter Tryd.func15, Tryd.ntmps15
      go_wp2_with fail
      go_ret2
      exact ⟨rfl, Below.refl _ _⟩
end Go.Proofs.YtlkcmegjbdibcaaDoor
