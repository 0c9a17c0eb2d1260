/- What is proved: what the document's own Number tells. (and what stands with it) -/
import Derived.Test.YtognifnalfjdgaaGreatDoorQj
import Derived.Test.YtognifnalfjdgaaGreatDoorQh
import Derived.Test.YtognifnalfjdgaaGreatDoorQg

/- What is proved: what the document's own Number tells. -/
namespace Go.Proofs.YtognifnalfjdgaaGreatDoor
open Go.RowKit Go.Shelf

set_option maxRecDepth 100000 in
theorem rdigit9_any (c : UInt8) (w : World) : Calls Tryz.prog 38 #[.int .u8 c.toNat] w fun e w' => e = .returned (.int .i64 (Ie.dig c : Nat)) ∧ w' = w := by
  have hc := c.toNat_lt
  have hd : (Ie.dig c : Int) = if 48 ≤ c.toNat ∧ c.toNat ≤ 57 then (c.toNat : Int) - 48 else if 97 ≤ c.toNat ∧ c.toNat ≤ 102 then (c.toNat : Int) - 97 + 10 else if 65 ≤ c.toNat ∧ c.toNat ≤ 70 then (c.toNat : Int) - 65 + 10 else 99 := by
    unfold Ie.dig
    have h1 : (48 ≤ c ∧ c ≤ 57) ↔ (48 ≤ c.toNat ∧ c.toNat ≤ 57) := by rw [UInt8.le_iff_toNat_le, UInt8.le_iff_toNat_le]; rfl
    have h2 : (97 ≤ c ∧ c ≤ 102) ↔ (97 ≤ c.toNat ∧ c.toNat ≤ 102) := by rw [UInt8.le_iff_toNat_le, UInt8.le_iff_toNat_le]; rfl
    have h3 : (65 ≤ c ∧ c ≤ 70) ↔ (65 ≤ c.toNat ∧ c.toNat ≤ 70) := by rw [UInt8.le_iff_toNat_le, UInt8.le_iff_toNat_le]; rfl
    simp only [h1, h2, h3]
    split
    · omega
    · split
      · omega
      · split
        · omega
        · rfl
  obtain ⟨D, hD⟩ : ∃ D : Int, D = (Ie.dig c : Nat) := ⟨_, rfl⟩
  obtain ⟨C, hC⟩ : ∃ C : Int, C = c.toNat := ⟨_, rfl⟩
  have b0 : 0 ≤ C := by omega
  have b1 : C ≤ 255 := by omega
  by_cases h1 : 48 ≤ c.toNat ∧ c.toNat ≤ 57
  · rw [if_pos h1, ← hD, ← hC] at hd
    have i0 : 48 ≤ C := by omega
    have i1 : C ≤ 57 := by omega
    rw [← hD, ← hC, hd]
    clear hd hD hC h1 hc
    go_enter Tryz.func38, Tryz.ntmps38
    go_wp2_with fail
    go_ret
    exact ⟨rfl, rfl⟩
  rw [if_neg h1] at hd
  by_cases h2 : 97 ≤ c.toNat ∧ c.toNat ≤ 102
  · rw [if_pos h2, ← hD, ← hC] at hd
    have i0 : 97 ≤ C := by omega
    have i1 : C ≤ 102 := by omega
    rw [← hD, ← hC, hd]
    clear hd hD hC h1 h2 hc
    go_enter Tryz.func38, Tryz.ntmps38
    go_wp2_with fail
    go_ret
    exact ⟨rfl, rfl⟩
  rw [if_neg h2] at hd
  by_cases h3 : 65 ≤ c.toNat ∧ c.toNat ≤ 70
  · rw [if_pos h3, ← hD, ← hC] at hd
    have i0 : 65 ≤ C := by omega
    have i1 : C ≤ 70 := by omega
    rw [← hD, ← hC, hd]
    clear hd hD hC h1 h2 h3 hc
    go_enter Tryz.func38, Tryz.ntmps38
    go_wp2_with fail
    go_ret
    exact ⟨rfl, rfl⟩
  rw [if_neg h3, ← hD] at hd
  have j1 : C < 48 ∨ 57 < C := by omega
  have j2 : C < 97 ∨ 102 < C := by omega
  have j3 : C < 65 ∨ 70 < C := by omega
  rw [← hD, ← hC, hd]
  clear hd hD hC h1 h2 h3 hc
  rcases j1 with j1 | j1
  all_goals
    rcases j2 with j2 | j2
    all_goals
      rcases j3 with j3 | j3
      all_goals
        go_enter Tryz.func38, Tryz.ntmps38
        go_wp2_with fail
        try (go_ret; exact ⟨rfl, rfl⟩)

set_option maxRecDepth 100000 in
set_option maxHeartbeats 2000000 in
theorem suffix_any (s : ByteArray) (w : World) : Calls Tryz.prog 39 #[.string s] w fun e w' => e = .returned (.bool (Ie.isSfx s.data.toList)) ∧ w' = w := by
  by_cases h0 : s = ⟨#[]⟩
  · have e0 : (s.toList == []) = true := lit_yes h0
    have hs : Ie.isSfx s.data.toList = true := by rw [h0]; decide
    rw [hs]
    clear hs h0
    go_enter Tryz.func39, Tryz.ntmps39
    go_wp2_with fail
    go_ret
    exact ⟨rfl, rfl⟩
  have e0 : (s.toList == []) = false := lit_no h0
  by_cases h1 : s = ⟨#[117]⟩
  · have e1 : (s.toList == [117]) = true := lit_yes h1
    have hs : Ie.isSfx s.data.toList = true := by rw [h1]; decide
    rw [hs]
    clear hs h1
    go_enter Tryz.func39, Tryz.ntmps39
    go_wp2_with fail
    go_ret
    exact ⟨rfl, rfl⟩
  have e1 : (s.toList == [117]) = false := lit_no h1
  by_cases h2 : s = ⟨#[85]⟩
  · have e2 : (s.toList == [85]) = true := lit_yes h2
    have hs : Ie.isSfx s.data.toList = true := by rw [h2]; decide
    rw [hs]
    clear hs h2
    go_enter Tryz.func39, Tryz.ntmps39
    go_wp2_with fail
    go_ret
    exact ⟨rfl, rfl⟩
  have e2 : (s.toList == [85]) = false := lit_no h2
  by_cases h3 : s = ⟨#[108]⟩
  · have e3 : (s.toList == [108]) = true := lit_yes h3
    have hs : Ie.isSfx s.data.toList = true := by rw [h3]; decide
    rw [hs]
    clear hs h3
    go_enter Tryz.func39, Tryz.ntmps39
    go_wp2_with fail
    go_ret
    exact ⟨rfl, rfl⟩
  have e3 : (s.toList == [108]) = false := lit_no h3
  by_cases h4 : s = ⟨#[76]⟩
  · have e4 : (s.toList == [76]) = true := lit_yes h4
    have hs : Ie.isSfx s.data.toList = true := by rw [h4]; decide
    rw [hs]
    clear hs h4
    go_enter Tryz.func39, Tryz.ntmps39
    go_wp2_with fail
    go_ret
    exact ⟨rfl, rfl⟩
  have e4 : (s.toList == [76]) = false := lit_no h4
  by_cases h5 : s = ⟨#[108, 108]⟩
  · have e5 : (s.toList == [108, 108]) = true := lit_yes h5
    have hs : Ie.isSfx s.data.toList = true := by rw [h5]; decide
    rw [hs]
    clear hs h5
    go_enter Tryz.func39, Tryz.ntmps39
    go_wp2_with fail
    go_ret
    exact ⟨rfl, rfl⟩
  have e5 : (s.toList == [108, 108]) = false := lit_no h5
  by_cases h6 : s = ⟨#[76, 76]⟩
  · have e6 : (s.toList == [76, 76]) = true := lit_yes h6
    have hs : Ie.isSfx s.data.toList = true := by rw [h6]; decide
    rw [hs]
    clear hs h6
    go_enter Tryz.func39, Tryz.ntmps39
    go_wp2_with fail
    go_ret
    exact ⟨rfl, rfl⟩
  have e6 : (s.toList == [76, 76]) = false := lit_no h6
  by_cases h7 : s = ⟨#[117, 108]⟩
  · have e7 : (s.toList == [117, 108]) = true := lit_yes h7
    have hs : Ie.isSfx s.data.toList = true := by rw [h7]; decide
    rw [hs]
    clear hs h7
    go_enter Tryz.func39, Tryz.ntmps39
    go_wp2_with fail
    go_ret
    exact ⟨rfl, rfl⟩
  have e7 : (s.toList == [117, 108]) = false := lit_no h7
  by_cases h8 : s = ⟨#[117, 76]⟩
  · have e8 : (s.toList == [117, 76]) = true := lit_yes h8
    have hs : Ie.isSfx s.data.toList = true := by rw [h8]; decide
    rw [hs]
    clear hs h8
    go_enter Tryz.func39, Tryz.ntmps39
    go_wp2_with fail
    go_ret
    exact ⟨rfl, rfl⟩
  have e8 : (s.toList == [117, 76]) = false := lit_no h8
  by_cases h9 : s = ⟨#[117, 108, 108]⟩
  · have e9 : (s.toList == [117, 108, 108]) = true := lit_yes h9
    have hs : Ie.isSfx s.data.toList = true := by rw [h9]; decide
    rw [hs]
    clear hs h9
    go_enter Tryz.func39, Tryz.ntmps39
    go_wp2_with fail
    go_ret
    exact ⟨rfl, rfl⟩
  have e9 : (s.toList == [117, 108, 108]) = false := lit_no h9
  by_cases h10 : s = ⟨#[117, 76, 76]⟩
  · have e10 : (s.toList == [117, 76, 76]) = true := lit_yes h10
    have hs : Ie.isSfx s.data.toList = true := by rw [h10]; decide
    rw [hs]
    clear hs h10
    go_enter Tryz.func39, Tryz.ntmps39
    go_wp2_with fail
    go_ret
    exact ⟨rfl, rfl⟩
  have e10 : (s.toList == [117, 76, 76]) = false := lit_no h10
  by_cases h11 : s = ⟨#[85, 108]⟩
  · have e11 : (s.toList == [85, 108]) = true := lit_yes h11
    have hs : Ie.isSfx s.data.toList = true := by rw [h11]; decide
    rw [hs]
    clear hs h11
    go_enter Tryz.func39, Tryz.ntmps39
    go_wp2_with fail
    go_ret
    exact ⟨rfl, rfl⟩
  have e11 : (s.toList == [85, 108]) = false := lit_no h11
  by_cases h12 : s = ⟨#[85, 76]⟩
  · have e12 : (s.toList == [85, 76]) = true := lit_yes h12
    have hs : Ie.isSfx s.data.toList = true := by rw [h12]; decide
    rw [hs]
    clear hs h12
    go_enter Tryz.func39, Tryz.ntmps39
    go_wp2_with fail
    go_ret
    exact ⟨rfl, rfl⟩
  have e12 : (s.toList == [85, 76]) = false := lit_no h12
  by_cases h13 : s = ⟨#[85, 108, 108]⟩
  · have e13 : (s.toList == [85, 108, 108]) = true := lit_yes h13
    have hs : Ie.isSfx s.data.toList = true := by rw [h13]; decide
    rw [hs]
    clear hs h13
    go_enter Tryz.func39, Tryz.ntmps39
    go_wp2_with fail
    go_ret
    exact ⟨rfl, rfl⟩
  have e13 : (s.toList == [85, 108, 108]) = false := lit_no h13
  by_cases h14 : s = ⟨#[85, 76, 76]⟩
  · have e14 : (s.toList == [85, 76, 76]) = true := lit_yes h14
    have hs : Ie.isSfx s.data.toList = true := by rw [h14]; decide
    rw [hs]
    clear hs h14
    go_enter Tryz.func39, Tryz.ntmps39
    go_wp2_with fail
    go_ret
    exact ⟨rfl, rfl⟩
  have e14 : (s.toList == [85, 76, 76]) = false := lit_no h14
  by_cases h15 : s = ⟨#[108, 117]⟩
  · have e15 : (s.toList == [108, 117]) = true := lit_yes h15
    have hs : Ie.isSfx s.data.toList = true := by rw [h15]; decide
    rw [hs]
    clear hs h15
    go_enter Tryz.func39, Tryz.ntmps39
    go_wp2_with fail
    go_ret
    exact ⟨rfl, rfl⟩
  have e15 : (s.toList == [108, 117]) = false := lit_no h15
  by_cases h16 : s = ⟨#[108, 85]⟩
  · have e16 : (s.toList == [108, 85]) = true := lit_yes h16
    have hs : Ie.isSfx s.data.toList = true := by rw [h16]; decide
    rw [hs]
    clear hs h16
    go_enter Tryz.func39, Tryz.ntmps39
    go_wp2_with fail
    go_ret
    exact ⟨rfl, rfl⟩
  have e16 : (s.toList == [108, 85]) = false := lit_no h16
  by_cases h17 : s = ⟨#[76, 117]⟩
  · have e17 : (s.toList == [76, 117]) = true := lit_yes h17
    have hs : Ie.isSfx s.data.toList = true := by rw [h17]; decide
    rw [hs]
    clear hs h17
    go_enter Tryz.func39, Tryz.ntmps39
    go_wp2_with fail
    go_ret
    exact ⟨rfl, rfl⟩
  have e17 : (s.toList == [76, 117]) = false := lit_no h17
  by_cases h18 : s = ⟨#[76, 85]⟩
  · have e18 : (s.toList == [76, 85]) = true := lit_yes h18
    have hs : Ie.isSfx s.data.toList = true := by rw [h18]; decide
    rw [hs]
    clear hs h18
    go_enter Tryz.func39, Tryz.ntmps39
    go_wp2_with fail
    go_ret
    exact ⟨rfl, rfl⟩
  have e18 : (s.toList == [76, 85]) = false := lit_no h18
  by_cases h19 : s = ⟨#[108, 108, 117]⟩
  · have e19 : (s.toList == [108, 108, 117]) = true := lit_yes h19
    have hs : Ie.isSfx s.data.toList = true := by rw [h19]; decide
    rw [hs]
    clear hs h19
    go_enter Tryz.func39, Tryz.ntmps39
    go_wp2_with fail
    go_ret
    exact ⟨rfl, rfl⟩
  have e19 : (s.toList == [108, 108, 117]) = false := lit_no h19
  by_cases h20 : s = ⟨#[108, 108, 85]⟩
  · have e20 : (s.toList == [108, 108, 85]) = true := lit_yes h20
    have hs : Ie.isSfx s.data.toList = true := by rw [h20]; decide
    rw [hs]
    clear hs h20
    go_enter Tryz.func39, Tryz.ntmps39
    go_wp2_with fail
    go_ret
    exact ⟨rfl, rfl⟩
  have e20 : (s.toList == [108, 108, 85]) = false := lit_no h20
  by_cases h21 : s = ⟨#[76, 76, 117]⟩
  · have e21 : (s.toList == [76, 76, 117]) = true := lit_yes h21
    have hs : Ie.isSfx s.data.toList = true := by rw [h21]; decide
    rw [hs]
    clear hs h21
    go_enter Tryz.func39, Tryz.ntmps39
    go_wp2_with fail
    go_ret
    exact ⟨rfl, rfl⟩
  have e21 : (s.toList == [76, 76, 117]) = false := lit_no h21
  by_cases h22 : s = ⟨#[76, 76, 85]⟩
  · have e22 : (s.toList == [76, 76, 85]) = true := lit_yes h22
    have hs : Ie.isSfx s.data.toList = true := by rw [h22]; decide
    rw [hs]
    clear hs h22
    go_enter Tryz.func39, Tryz.ntmps39
    go_wp2_with fail
    go_ret
    exact ⟨rfl, rfl⟩
  have e22 : (s.toList == [76, 76, 85]) = false := lit_no h22
  have hs : Ie.isSfx s.data.toList = false := by
    cases hq : Ie.isSfx s.data.toList with
    | false => rfl
    | true =>
      have hm : s.data.toList ∈ Ie.sfxs := by simpa [Ie.isSfx] using hq
      have key : ∀ x, s.data.toList = x → s = ⟨x.toArray⟩ := fun x h => by rw [← h]
      simp only [Ie.sfxs, List.mem_cons, List.not_mem_nil, or_false] at hm
      rcases hm with h | h | h | h | h | h | h | h | h | h | h | h | h | h | h | h | h | h | h | h | h | h | h
      · exact absurd (key _ h) h0
      · exact absurd (key _ h) h1
      · exact absurd (key _ h) h2
      · exact absurd (key _ h) h3
      · exact absurd (key _ h) h4
      · exact absurd (key _ h) h5
      · exact absurd (key _ h) h6
      · exact absurd (key _ h) h7
      · exact absurd (key _ h) h8
      · exact absurd (key _ h) h9
      · exact absurd (key _ h) h10
      · exact absurd (key _ h) h11
      · exact absurd (key _ h) h12
      · exact absurd (key _ h) h13
      · exact absurd (key _ h) h14
      · exact absurd (key _ h) h15
      · exact absurd (key _ h) h16
      · exact absurd (key _ h) h17
      · exact absurd (key _ h) h18
      · exact absurd (key _ h) h19
      · exact absurd (key _ h) h20
      · exact absurd (key _ h) h21
      · exact absurd (key _ h) h22
  rw [hs]
  clear hs h0 h1 h2 h3 h4 h5 h6 h7 h8 h9 h10 h11 h12 h13 h14 h15 h16 h17 h18 h19 h20 h21 h22
  go_enter Tryz.func39, Tryz.ntmps39
  go_wp2_with fail
  go_ret
  exact ⟨rfl, rfl⟩

theorem byte7 {s : ByteArray} {i : Nat} {c : UInt8} (h : s.data.toList[i]? = some c) (hi : i < s.size) : ((s[i]'hi).toNat : Int) = c.toNat := by
  obtain ⟨h1, h2⟩ := List.getElem?_eq_some_iff.1 h
  have : s[i]'hi = c := by rw [← h2]; rfl
  rw [this]
theorem u8_iff {c : UInt8} {k : Nat} (hk : k < 256) : c = UInt8.ofNat k ↔ (c.toNat : Int) = k := by
  constructor
  · intro h
    rw [h, UInt8.toNat_ofNat']
    have : k % 2 ^ 8 = k := Nat.mod_eq_of_lt hk
    omega
  · intro h
    apply UInt8.toNat_inj.1
    rw [UInt8.toNat_ofNat']
    have : k % 2 ^ 8 = k := Nat.mod_eq_of_lt hk
    omega
noncomputable def rnBody : Code := Tryz.f14.body.getD .skip
def RnPost (w : World) (q : Option Nat) (e : Ending) (w' : World) : Prop := e = .returned (.tuple #[.int .i64 (Ie.nv q), .int .i64 (Ie.ne q)]) ∧ Below w.heap.size w w'
set_option maxRecDepth 100000 in
set_option maxHeartbeats 1000000 in
theorem rn8 (s : ByteArray) (i k n : Nat) (_ : s.size ≤ 1000000) (hi : i ≤ s.size) (w : World) (c1 c2 c3 c4 c8 c9 c10 c11 c12 c13 c14 c15 c16 c17 c18 c19 c20 c21 c22 c23 c24 c25 c26 c27 c28 c29 c30 c31 c32 c33 c34 c35 c36 c37 c38 c39 c40 c41 c42 c43 c44 c45 c46 c47 c48 c49 c50 c51 c52 c53 c54 c55 c56 c57 c58 c59 c60 c61 c62 c63 c64 c65 c66 c67 c68 c69 c70 c71 c72 : Value) :
    Code.wp Tryz.prog (secs 8 rnBody) (bodyPost Tryz.prog Tryz.f14 (RnPost w (if i = k then none else if !Ie.isSfx (s.data.toList.drop i) then none else some n))) ⟨#[.string s, c1, c2, c3, c4, .int .i64 i, .int .i64 k, .int .i64 n, c8, c9, c10, c11, c12, c13, c14, c15, c16, c17, c18, c19, c20, c21, c22, c23, c24, c25, c26, c27, c28, c29, c30, c31, c32, c33, c34, c35, c36, c37, c38, c39, c40, c41, c42, c43, c44, c45, c46, c47, c48, c49, c50, c51, c52, c53, c54, c55, c56, c57, c58, c59, c60, c61, c62, c63, c64, c65, c66, c67, c68, c69, c70, c71, c72], []⟩ w := by
  by_cases hik : i = k
  · rw [if_pos hik]
    subst hik
    refine wp_sec 8 rnBody rfl ?_
    conv => arg 2; whnf
    go_wp2_with fail
    go_ret2
    exact ⟨rfl, Below.refl _ _⟩
  · rw [if_neg hik]
    have K1 := suffix_any (s.extract i s.size) w
    have hx : (s.extract i s.size).data.toList = s.data.toList.drop i := by
      rw [Lib.extract_data, List.take_of_length_le]
      rw [List.length_drop, Array.length_toList]
      exact Nat.le_refl _
    rw [hx] at K1
    obtain ⟨q, hq⟩ : ∃ q, q = Ie.isSfx (s.data.toList.drop i) := ⟨_, rfl⟩
    rw [← hq] at K1 ⊢
    have HK := Lib.hid K1
    have z1 : ((i : Int) == k) = false := beq_eq_false_iff_ne.2 (by omega)
    have z2 : (0 : Int) ≤ i := by omega
    have z3 : (i : Int) ≤ s.size := by omega
    clear K1 hx hq
    refine wp_sec 8 rnBody rfl ?_
    conv => arg 2; whnf
    go_wp2_with fail
    refine HK.out.mono ?_
    rintro e w' ⟨rfl, rfl⟩
    cases q with
    | true =>
      go_wp2_with fail
      refine wp_sec 9 rnBody rfl ?_
      conv => arg 2; whnf
      go_wp2_with fail
      conv => arg 2; whnf
      go_wp2_with fail
      go_ret2
      exact ⟨rfl, Below.refl _ _⟩
    | false =>
      go_wp2_with fail
      go_ret2
      exact ⟨rfl, Below.refl _ _⟩

/-- What the digits so far say of the whole. -/
theorem rn_over {b : Nat} (hb : 1 ≤ b) {r : List UInt8} {j : Nat} {c : UInt8} (hc : r[j]? = some c) (hd : Ie.dig c < b) (hall : ∀ x ∈ r.take j, Ie.dig x < b) (hm : Ie.most < Ie.vf b 0 (r.take j) * b + Ie.dig c) :
    Ie.most < Ie.val b (Ie.digs b r) := by
  obtain ⟨hj, e⟩ := List.getElem?_eq_some_iff.1 hc
  have h1 : r = (r.take j ++ [c]) ++ r.drop (j + 1) := by
    rw [List.append_assoc, List.singleton_append]
    have h2 : r.drop j = c :: r.drop (j + 1) := by rw [List.drop_eq_getElem_cons hj, e]
    rw [← h2, List.take_append_drop]
  have h2 : ∃ t, Ie.digs b r = (r.take j ++ [c]) ++ t := by
    refine ⟨(r.drop (j + 1)).takeWhile fun c => decide (Ie.dig c < b), ?_⟩
    unfold Ie.digs
    conv => lhs; rw [h1]
    have hall' : ∀ x ∈ r.take j ++ [c], decide (Ie.dig x < b) = true := fun x hx => by
      rcases List.mem_append.1 hx with hx | hx
      · exact decide_eq_true (hall x hx)
      · rw [List.mem_singleton.1 hx]; exact decide_eq_true hd
    generalize r.take j ++ [c] = D at hall'
    induction D with
    | nil => rfl
    | cons a D ih =>
      rw [List.cons_append, List.takeWhile_cons, if_pos (hall' a List.mem_cons_self), ih fun x hx => hall' x (List.mem_cons_of_mem _ hx)]
      rfl
  obtain ⟨t, ht⟩ := h2
  rw [ht]
  have h3 : Ie.val b ((r.take j ++ [c]) ++ t) = Ie.vf b (Ie.vf b 0 (r.take j) * b + Ie.dig c) t := by
    show List.foldl _ 0 _ = _
    rw [List.foldl_append, List.foldl_append]
    rfl
  rw [h3]
  exact Nat.lt_of_lt_of_le hm (Ie.vf_ge b hb t _)
theorem rn_stop {b : Nat} {r : List UInt8} {j : Nat} (hall : ∀ x ∈ r.take j, Ie.dig x < b) (_ : j ≤ r.length) (hst : ∀ c, r[j]? = some c → ¬ Ie.dig c < b) : Ie.digs b r = r.take j := by
  have h := Ie.takeWhile_app (fun c => decide (Ie.dig c < b)) (r.take j) (r.drop j) (fun c hc => decide_eq_true (hall c hc)) fun c t e => by
    have : r[j]? = some c := by
      have h1 : (r.drop j)[0]? = some c := by rw [e]; rfl
      rw [List.getElem?_drop] at h1
      exact h1
    exact decide_eq_false (hst c this)
  rw [List.take_append_drop] at h
  exact h

set_option maxRecDepth 100000 in
set_option maxHeartbeats 4000000 in
theorem rn7_8 (s : ByteArray) (k : Nat) (hs : s.size ≤ 1000000) (hk : k ≤ s.size) (hst : Ie.start s.data.toList = (k, 8)) (w : World) (c1 c2 c3 c9 c10 c11 c12 c13 c14 c15 c16 c17 c18 c19 c20 c21 c22 c23 c24 c25 c26 c27 c28 c29 c30 c31 c32 c33 c34 c35 c36 c37 c38 c39 c40 c41 c42 c43 c44 c45 c46 c47 c48 c49 c50 c51 c52 c53 c54 c55 c56 c57 c58 c59 c60 c61 c62 c63 c64 c65 c66 c67 c68 c69 c70 c71 c72 : Value) :
    Code.wp Tryz.prog (secs 7 rnBody) (bodyPost Tryz.prog Tryz.f14 (RnPost w (Ie.number s.data.toList))) ⟨#[.string s, c1, c2, c3, .int .i64 8, .int .i64 k, .int .i64 k, .int .i64 0, .int .i64 9223372036854775807, c9, c10, c11, c12, c13, c14, c15, c16, c17, c18, c19, c20, c21, c22, c23, c24, c25, c26, c27, c28, c29, c30, c31, c32, c33, c34, c35, c36, c37, c38, c39, c40, c41, c42, c43, c44, c45, c46, c47, c48, c49, c50, c51, c52, c53, c54, c55, c56, c57, c58, c59, c60, c61, c62, c63, c64, c65, c66, c67, c68, c69, c70, c71, c72], []⟩ w := by
  obtain ⟨r, hr⟩ : ∃ r, r = s.data.toList.drop k := ⟨_, rfl⟩
  have hrl : r.length + k = s.size := by rw [hr, List.length_drop, Array.length_toList]; have : s.data.size = s.size := rfl; omega
  have hnum : Ie.number s.data.toList = if Ie.digs 8 r = [] then none else if !Ie.isSfx (r.drop (Ie.digs 8 r).length) then none else if Ie.most < Ie.val 8 (Ie.digs 8 r) then none else some (Ie.val 8 (Ie.digs 8 r)) := by
    unfold Ie.number
    rw [hst]
    dsimp only
    rw [← hr]
  obtain ⟨Q, hQ⟩ : ∃ Q, Q = Ie.number s.data.toList := ⟨_, rfl⟩
  rw [← hQ] at hnum ⊢
  have HNUM := Lib.hid hnum
  have HR := Lib.hid hr
  have HRL := Lib.hid hrl
  have hend : ∀ (j : Nat), j ≤ r.length → (∀ x ∈ r.take j, Ie.dig x < 8) → (∀ c, r[j]? = some c → ¬ Ie.dig c < 8) → Ie.vf 8 0 (r.take j) ≤ 9223372036854775807 →
      Q = if k + j = k then none else if !Ie.isSfx (s.data.toList.drop (k + j)) then none else some (Ie.vf 8 0 (r.take j)) := fun j hj hall hstop hm => by
    rw [HNUM.out, rn_stop hall hj hstop]
    have e1 : (r.take j).length = j := by rw [List.length_take]; omega
    have e2 : r.drop j = s.data.toList.drop (k + j) := by rw [HR.out, List.drop_drop]
    rw [e1, e2]
    have e3 : Ie.val 8 (r.take j) = Ie.vf 8 0 (r.take j) := rfl
    rw [e3, if_neg (show ¬ Ie.most < Ie.vf 8 0 (r.take j) by unfold Ie.most; omega)]
    by_cases h0 : j = 0
    · rw [if_pos (show r.take j = [] by rw [h0]; rfl), if_pos (show k + j = k by omega)]
    · rw [if_neg (show ¬ r.take j = [] from fun e => h0 (by rw [e] at e1; exact e1.symm)), if_neg (show ¬ k + j = k by omega)]
  have HEND := Lib.hid hend
  clear hnum hr hrl hend hQ hst
  refine wp_sec 7 rnBody rfl ?_
  conv => arg 2; whnf
  go_wp2_with fail
  go_loop [5, 7] (fun vi vn => ∃ (j : Nat) (acc : Nat), vi = .int .i64 ((k + j : Nat) : Int) ∧ vn = .int .i64 acc ∧ j ≤ r.length ∧ acc ≤ 9223372036854775807 ∧ Hid (acc = Ie.vf 8 0 (r.take j) ∧ ∀ x ∈ r.take j, Ie.dig x < 8))
    (fun vi _ => s.size - (intOf vi).toNat)
  case atStart => exact ⟨0, 0, rfl, rfl, Nat.zero_le _, by omega, Lib.hid ⟨rfl, fun x hx => by simp at hx⟩⟩
  case round =>
    obtain ⟨j, acc, rfl, rfl, hj, hacc, hh⟩ := hrel
    have hrl := HRL.out
    by_cases hlt : j < r.length
    · obtain ⟨c, hc⟩ : ∃ c, r[j]? = some c := ⟨_, List.getElem?_eq_getElem hlt⟩
      have hsc : s.data.toList[k + j]? = some c := by rw [HR.out, List.getElem?_drop] at hc; exact hc
      have hi1 : k + j < s.size := by omega
      obtain ⟨h1, h2⟩ := List.getElem?_eq_some_iff.1 hsc
      obtain ⟨i, hi⟩ : ∃ i, i = k + j := ⟨_, rfl⟩
      rw [← hi] at hi1 hsc
      have g0 : ((s[i]'hi1).toNat : Int) = c.toNat := by
        obtain ⟨h1, h2⟩ := List.getElem?_eq_some_iff.1 hsc
        have : s[i]'hi1 = c := by rw [← h2]; rfl
        rw [this]
      rw [← hi]
      obtain ⟨D, hD⟩ : ∃ D, D = Ie.dig c := ⟨_, rfl⟩
      have K1 := rdigit9_any c w
      rw [← hD] at K1
      have HK := Lib.hid K1
      have HC := Lib.hid hc
      have HD := Lib.hid hD
      have HI := Lib.hid hi
      obtain ⟨C, hC⟩ : ∃ C : Int, C = c.toNat := ⟨_, rfl⟩
      rw [← hC] at g0 HK
      have z0 : (0 : Int) ≤ i := by omega
      have z1 : (i : Int) < s.size := by omega
      have HJ := Lib.hid (And.intro hj hlt)
      clear hsc h1 h2 K1 hc hD hi hC hj hlt hrl
      by_cases hd : D < 8
      · have hd1 : (D : Int) < 8 := by omega
        have hdm : (0 : Int) ≤ D := by omega
        by_cases hov : 9223372036854775807 < acc * 8 + D
        · have hq : Q = none := by
            rw [HNUM.out]
            have h3 := rn_over (by decide) HC.out (by rw [← HD.out]; exact hd) hh.out.2 (by rw [← hh.out.1, ← HD.out]; exact hov)
            rw [if_pos h3]
            split
            · rfl
            · split <;> rfl
          have HQN := Lib.hid hq
          have hg : ((9223372036854775807 - (D : Int)).tdiv 8) < acc := by rw [Int.tdiv_eq_ediv_of_nonneg (by omega)]; omega
          have hw1 : IntKind.i64.wrap ((9223372036854775807 - (D : Int)).tdiv 8) = (9223372036854775807 - (D : Int)).tdiv 8 := by
            have : 0 ≤ ((9223372036854775807 - (D : Int)).tdiv 8) := by rw [Int.tdiv_eq_ediv_of_nonneg (by omega)]; omega
            exact IntWalk.i64_in _ (by omega)
          obtain ⟨qq, hqq⟩ : ∃ qq, qq = (9223372036854775807 - (D : Int)).tdiv 8 := ⟨_, rfl⟩
          rw [← hqq] at hg
          clear hov hq
          go_wp2_with fail
          refine HK.out.mono ?_
          rintro e w' ⟨rfl, rfl⟩
          go_wp2_with fail
          go_ret2
          exact ⟨by rw [HQN.out]; rfl, Below.refl _ _⟩
        · have hg : (acc : Int) ≤ ((9223372036854775807 - (D : Int)).tdiv 8) := by rw [Int.tdiv_eq_ediv_of_nonneg (by omega)]; omega
          have hw1 : IntKind.i64.wrap ((9223372036854775807 - (D : Int)).tdiv 8) = (9223372036854775807 - (D : Int)).tdiv 8 := by
            have : 0 ≤ ((9223372036854775807 - (D : Int)).tdiv 8) := by rw [Int.tdiv_eq_ediv_of_nonneg (by omega)]; omega
            have : ((9223372036854775807 - (D : Int)).tdiv 8) ≤ 9223372036854775807 := by rw [Int.tdiv_eq_ediv_of_nonneg (by omega)]; omega
            exact IntWalk.i64_in _ (by omega)
          have hn1 : (acc : Int) * 8 + D ≤ 9223372036854775807 := by omega
          have HHH := Lib.hid hh.out
          have HOV := Lib.hid hov
          clear hov hh
          go_wp2_with fail
          refine HK.out.mono ?_
          rintro e w' ⟨rfl, rfl⟩
          go_wp2_with fail
          go_round
          case rel =>
            refine ⟨j + 1, acc * 8 + D, ?_, ?_, by have := HJ.out.2; omega, by have := HOV.out; omega, Lib.hid ⟨?_, ?_⟩⟩
            · have := HI.out
              first | (congr 1; omega) | (congr 1)
            · first | rfl | (congr 1; done) | (congr 1; omega)
            · rw [List.take_succ_eq_append_getElem HJ.out.2]
              have e : r[j]'HJ.out.2 = c := by
                have := HC.out
                rw [List.getElem?_eq_getElem HJ.out.2] at this
                exact Option.some.inj this
              rw [e]
              show _ = List.foldl _ 0 _
              rw [List.foldl_append]
              show _ = Ie.vf 8 0 (r.take j) * 8 + Ie.dig c
              rw [← HHH.out.1, ← HD.out]
            · intro x hx
              rw [List.take_succ_eq_append_getElem HJ.out.2] at hx
              rcases List.mem_append.1 hx with hx | hx
              · exact HHH.out.2 x hx
              · have e : r[j]'HJ.out.2 = c := by
                  have := HC.out
                  rw [List.getElem?_eq_getElem HJ.out.2] at this
                  exact Option.some.inj this
                rw [List.mem_singleton.1 hx, e, ← HD.out]
                exact hd
          case measure => simp [intOf]; omega
      · have hd1 : (8 : Int) ≤ D := by omega
        have hQ2 := HEND.out j HJ.out.1 hh.out.2 (fun c' hc' => by
          have := HC.out
          rw [hc'] at this
          rw [Option.some.inj this, ← HD.out]
          exact hd) (by rw [← hh.out.1]; exact hacc)
        rw [← hh.out.1, ← HI.out] at hQ2
        have HQ2 := Lib.hid hQ2
        have HI1 := Lib.hid (show i ≤ s.size by omega)
        clear hQ2 hh
        go_wp2_with fail
        refine HK.out.mono ?_
        rintro e w' ⟨rfl, rfl⟩
        go_wp2_with fail
        rw [HQ2.out]
        exact rn8 s i k acc hs HI1.out w' _ _ _ _ _ _ _ _ _ _ _ _ _ _ _ _ _ _ _ _ _ _ _ _ _ _ _ _ _ _ _ _ _ _ _ _ _ _ _ _ _ _ _ _ _ _ _ _ _ _ _ _ _ _ _ _ _ _ _ _ _ _ _ _ _ _ _ _ _
    · obtain rfl : j = r.length := by omega
      have hQ2 := HEND.out r.length hj hh.out.2 (fun c' hc' => by rw [List.getElem?_eq_none (Nat.le_refl _)] at hc'; cases hc') (by rw [← hh.out.1]; exact hacc)
      rw [← hh.out.1] at hQ2
      have HQ2 := Lib.hid hQ2
      have hks : k + r.length = s.size := by omega
      rw [hks] at HQ2 ⊢
      clear hQ2 hh
      go_wp2_with fail
      rw [HQ2.out]
      exact rn8 s s.size k acc hs (Nat.le_refl _) w _ _ _ _ _ _ _ _ _ _ _ _ _ _ _ _ _ _ _ _ _ _ _ _ _ _ _ _ _ _ _ _ _ _ _ _ _ _ _ _ _ _ _ _ _ _ _ _ _ _ _ _ _ _ _ _ _ _ _ _ _ _ _ _ _ _ _ _ _

set_option maxRecDepth 100000 in
set_option maxHeartbeats 4000000 in
theorem rn7_10 (s : ByteArray) (k : Nat) (hs : s.size ≤ 1000000) (hk : k ≤ s.size) (hst : Ie.start s.data.toList = (k, 10)) (w : World) (c1 c2 c3 c9 c10 c11 c12 c13 c14 c15 c16 c17 c18 c19 c20 c21 c22 c23 c24 c25 c26 c27 c28 c29 c30 c31 c32 c33 c34 c35 c36 c37 c38 c39 c40 c41 c42 c43 c44 c45 c46 c47 c48 c49 c50 c51 c52 c53 c54 c55 c56 c57 c58 c59 c60 c61 c62 c63 c64 c65 c66 c67 c68 c69 c70 c71 c72 : Value) :
    Code.wp Tryz.prog (secs 7 rnBody) (bodyPost Tryz.prog Tryz.f14 (RnPost w (Ie.number s.data.toList))) ⟨#[.string s, c1, c2, c3, .int .i64 10, .int .i64 k, .int .i64 k, .int .i64 0, .int .i64 9223372036854775807, c9, c10, c11, c12, c13, c14, c15, c16, c17, c18, c19, c20, c21, c22, c23, c24, c25, c26, c27, c28, c29, c30, c31, c32, c33, c34, c35, c36, c37, c38, c39, c40, c41, c42, c43, c44, c45, c46, c47, c48, c49, c50, c51, c52, c53, c54, c55, c56, c57, c58, c59, c60, c61, c62, c63, c64, c65, c66, c67, c68, c69, c70, c71, c72], []⟩ w := by
  obtain ⟨r, hr⟩ : ∃ r, r = s.data.toList.drop k := ⟨_, rfl⟩
  have hrl : r.length + k = s.size := by rw [hr, List.length_drop, Array.length_toList]; have : s.data.size = s.size := rfl; omega
  have hnum : Ie.number s.data.toList = if Ie.digs 10 r = [] then none else if !Ie.isSfx (r.drop (Ie.digs 10 r).length) then none else if Ie.most < Ie.val 10 (Ie.digs 10 r) then none else some (Ie.val 10 (Ie.digs 10 r)) := by
    unfold Ie.number
    rw [hst]
    dsimp only
    rw [← hr]
  obtain ⟨Q, hQ⟩ : ∃ Q, Q = Ie.number s.data.toList := ⟨_, rfl⟩
  rw [← hQ] at hnum ⊢
  have HNUM := Lib.hid hnum
  have HR := Lib.hid hr
  have HRL := Lib.hid hrl
  have hend : ∀ (j : Nat), j ≤ r.length → (∀ x ∈ r.take j, Ie.dig x < 10) → (∀ c, r[j]? = some c → ¬ Ie.dig c < 10) → Ie.vf 10 0 (r.take j) ≤ 9223372036854775807 →
      Q = if k + j = k then none else if !Ie.isSfx (s.data.toList.drop (k + j)) then none else some (Ie.vf 10 0 (r.take j)) := fun j hj hall hstop hm => by
    rw [HNUM.out, rn_stop hall hj hstop]
    have e1 : (r.take j).length = j := by rw [List.length_take]; omega
    have e2 : r.drop j = s.data.toList.drop (k + j) := by rw [HR.out, List.drop_drop]
    rw [e1, e2]
    have e3 : Ie.val 10 (r.take j) = Ie.vf 10 0 (r.take j) := rfl
    rw [e3, if_neg (show ¬ Ie.most < Ie.vf 10 0 (r.take j) by unfold Ie.most; omega)]
    by_cases h0 : j = 0
    · rw [if_pos (show r.take j = [] by rw [h0]; rfl), if_pos (show k + j = k by omega)]
    · rw [if_neg (show ¬ r.take j = [] from fun e => h0 (by rw [e] at e1; exact e1.symm)), if_neg (show ¬ k + j = k by omega)]
  have HEND := Lib.hid hend
  clear hnum hr hrl hend hQ hst
  refine wp_sec 7 rnBody rfl ?_
  conv => arg 2; whnf
  go_wp2_with fail
  go_loop [5, 7] (fun vi vn => ∃ (j : Nat) (acc : Nat), vi = .int .i64 ((k + j : Nat) : Int) ∧ vn = .int .i64 acc ∧ j ≤ r.length ∧ acc ≤ 9223372036854775807 ∧ Hid (acc = Ie.vf 10 0 (r.take j) ∧ ∀ x ∈ r.take j, Ie.dig x < 10))
    (fun vi _ => s.size - (intOf vi).toNat)
  case atStart => exact ⟨0, 0, rfl, rfl, Nat.zero_le _, by omega, Lib.hid ⟨rfl, fun x hx => by simp at hx⟩⟩
  case round =>
    obtain ⟨j, acc, rfl, rfl, hj, hacc, hh⟩ := hrel
    have hrl := HRL.out
    by_cases hlt : j < r.length
    · obtain ⟨c, hc⟩ : ∃ c, r[j]? = some c := ⟨_, List.getElem?_eq_getElem hlt⟩
      have hsc : s.data.toList[k + j]? = some c := by rw [HR.out, List.getElem?_drop] at hc; exact hc
      have hi1 : k + j < s.size := by omega
      obtain ⟨h1, h2⟩ := List.getElem?_eq_some_iff.1 hsc
      obtain ⟨i, hi⟩ : ∃ i, i = k + j := ⟨_, rfl⟩
      rw [← hi] at hi1 hsc
      have g0 : ((s[i]'hi1).toNat : Int) = c.toNat := by
        obtain ⟨h1, h2⟩ := List.getElem?_eq_some_iff.1 hsc
        have : s[i]'hi1 = c := by rw [← h2]; rfl
        rw [this]
      rw [← hi]
      obtain ⟨D, hD⟩ : ∃ D, D = Ie.dig c := ⟨_, rfl⟩
      have K1 := rdigit9_any c w
      rw [← hD] at K1
      have HK := Lib.hid K1
      have HC := Lib.hid hc
      have HD := Lib.hid hD
      have HI := Lib.hid hi
      obtain ⟨C, hC⟩ : ∃ C : Int, C = c.toNat := ⟨_, rfl⟩
      rw [← hC] at g0 HK
      have z0 : (0 : Int) ≤ i := by omega
      have z1 : (i : Int) < s.size := by omega
      have HJ := Lib.hid (And.intro hj hlt)
      clear hsc h1 h2 K1 hc hD hi hC hj hlt hrl
      by_cases hd : D < 10
      · have hd1 : (D : Int) < 10 := by omega
        have hdm : (0 : Int) ≤ D := by omega
        by_cases hov : 9223372036854775807 < acc * 10 + D
        · have hq : Q = none := by
            rw [HNUM.out]
            have h3 := rn_over (by decide) HC.out (by rw [← HD.out]; exact hd) hh.out.2 (by rw [← hh.out.1, ← HD.out]; exact hov)
            rw [if_pos h3]
            split
            · rfl
            · split <;> rfl
          have HQN := Lib.hid hq
          have hg : ((9223372036854775807 - (D : Int)).tdiv 10) < acc := by rw [Int.tdiv_eq_ediv_of_nonneg (by omega)]; omega
          have hw1 : IntKind.i64.wrap ((9223372036854775807 - (D : Int)).tdiv 10) = (9223372036854775807 - (D : Int)).tdiv 10 := by
            have : 0 ≤ ((9223372036854775807 - (D : Int)).tdiv 10) := by rw [Int.tdiv_eq_ediv_of_nonneg (by omega)]; omega
            exact IntWalk.i64_in _ (by omega)
          obtain ⟨qq, hqq⟩ : ∃ qq, qq = (9223372036854775807 - (D : Int)).tdiv 10 := ⟨_, rfl⟩
          rw [← hqq] at hg
          clear hov hq
          go_wp2_with fail
          refine HK.out.mono ?_
          rintro e w' ⟨rfl, rfl⟩
          go_wp2_with fail
          go_ret2
          exact ⟨by rw [HQN.out]; rfl, Below.refl _ _⟩
        · have hg : (acc : Int) ≤ ((9223372036854775807 - (D : Int)).tdiv 10) := by rw [Int.tdiv_eq_ediv_of_nonneg (by omega)]; omega
          have hw1 : IntKind.i64.wrap ((9223372036854775807 - (D : Int)).tdiv 10) = (9223372036854775807 - (D : Int)).tdiv 10 := by
            have : 0 ≤ ((9223372036854775807 - (D : Int)).tdiv 10) := by rw [Int.tdiv_eq_ediv_of_nonneg (by omega)]; omega
            have : ((9223372036854775807 - (D : Int)).tdiv 10) ≤ 9223372036854775807 := by rw [Int.tdiv_eq_ediv_of_nonneg (by omega)]; omega
            exact IntWalk.i64_in _ (by omega)
          have hn1 : (acc : Int) * 10 + D ≤ 9223372036854775807 := by omega
          have HHH := Lib.hid hh.out
          have HOV := Lib.hid hov
          clear hov hh
          go_wp2_with fail
          refine HK.out.mono ?_
          rintro e w' ⟨rfl, rfl⟩
          go_wp2_with fail
          go_round
          case rel =>
            refine ⟨j + 1, acc * 10 + D, ?_, ?_, by have := HJ.out.2; omega, by have := HOV.out; omega, Lib.hid ⟨?_, ?_⟩⟩
            · have := HI.out
              first | (congr 1; omega) | (congr 1)
            · first | rfl | (congr 1; done) | (congr 1; omega)
            · rw [List.take_succ_eq_append_getElem HJ.out.2]
              have e : r[j]'HJ.out.2 = c := by
                have := HC.out
                rw [List.getElem?_eq_getElem HJ.out.2] at this
                exact Option.some.inj this
              rw [e]
              show _ = List.foldl _ 0 _
              rw [List.foldl_append]
              show _ = Ie.vf 10 0 (r.take j) * 10 + Ie.dig c
              rw [← HHH.out.1, ← HD.out]
            · intro x hx
              rw [List.take_succ_eq_append_getElem HJ.out.2] at hx
              rcases List.mem_append.1 hx with hx | hx
              · exact HHH.out.2 x hx
              · have e : r[j]'HJ.out.2 = c := by
                  have := HC.out
                  rw [List.getElem?_eq_getElem HJ.out.2] at this
                  exact Option.some.inj this
                rw [List.mem_singleton.1 hx, e, ← HD.out]
                exact hd
          case measure => simp [intOf]; omega
      · have hd1 : (10 : Int) ≤ D := by omega
        have hQ2 := HEND.out j HJ.out.1 hh.out.2 (fun c' hc' => by
          have := HC.out
          rw [hc'] at this
          rw [Option.some.inj this, ← HD.out]
          exact hd) (by rw [← hh.out.1]; exact hacc)
        rw [← hh.out.1, ← HI.out] at hQ2
        have HQ2 := Lib.hid hQ2
        have HI1 := Lib.hid (show i ≤ s.size by omega)
        clear hQ2 hh
        go_wp2_with fail
        refine HK.out.mono ?_
        rintro e w' ⟨rfl, rfl⟩
        go_wp2_with fail
        rw [HQ2.out]
        exact rn8 s i k acc hs HI1.out w' _ _ _ _ _ _ _ _ _ _ _ _ _ _ _ _ _ _ _ _ _ _ _ _ _ _ _ _ _ _ _ _ _ _ _ _ _ _ _ _ _ _ _ _ _ _ _ _ _ _ _ _ _ _ _ _ _ _ _ _ _ _ _ _ _ _ _ _ _
    · obtain rfl : j = r.length := by omega
      have hQ2 := HEND.out r.length hj hh.out.2 (fun c' hc' => by rw [List.getElem?_eq_none (Nat.le_refl _)] at hc'; cases hc') (by rw [← hh.out.1]; exact hacc)
      rw [← hh.out.1] at hQ2
      have HQ2 := Lib.hid hQ2
      have hks : k + r.length = s.size := by omega
      rw [hks] at HQ2 ⊢
      clear hQ2 hh
      go_wp2_with fail
      rw [HQ2.out]
      exact rn8 s s.size k acc hs (Nat.le_refl _) w _ _ _ _ _ _ _ _ _ _ _ _ _ _ _ _ _ _ _ _ _ _ _ _ _ _ _ _ _ _ _ _ _ _ _ _ _ _ _ _ _ _ _ _ _ _ _ _ _ _ _ _ _ _ _ _ _ _ _ _ _ _ _ _ _ _ _ _ _

set_option maxRecDepth 100000 in
set_option maxHeartbeats 4000000 in
theorem rn7_16 (s : ByteArray) (k : Nat) (hs : s.size ≤ 1000000) (hk : k ≤ s.size) (hst : Ie.start s.data.toList = (k, 16)) (w : World) (c1 c2 c3 c9 c10 c11 c12 c13 c14 c15 c16 c17 c18 c19 c20 c21 c22 c23 c24 c25 c26 c27 c28 c29 c30 c31 c32 c33 c34 c35 c36 c37 c38 c39 c40 c41 c42 c43 c44 c45 c46 c47 c48 c49 c50 c51 c52 c53 c54 c55 c56 c57 c58 c59 c60 c61 c62 c63 c64 c65 c66 c67 c68 c69 c70 c71 c72 : Value) :
    Code.wp Tryz.prog (secs 7 rnBody) (bodyPost Tryz.prog Tryz.f14 (RnPost w (Ie.number s.data.toList))) ⟨#[.string s, c1, c2, c3, .int .i64 16, .int .i64 k, .int .i64 k, .int .i64 0, .int .i64 9223372036854775807, c9, c10, c11, c12, c13, c14, c15, c16, c17, c18, c19, c20, c21, c22, c23, c24, c25, c26, c27, c28, c29, c30, c31, c32, c33, c34, c35, c36, c37, c38, c39, c40, c41, c42, c43, c44, c45, c46, c47, c48, c49, c50, c51, c52, c53, c54, c55, c56, c57, c58, c59, c60, c61, c62, c63, c64, c65, c66, c67, c68, c69, c70, c71, c72], []⟩ w := by
  obtain ⟨r, hr⟩ : ∃ r, r = s.data.toList.drop k := ⟨_, rfl⟩
  have hrl : r.length + k = s.size := by rw [hr, List.length_drop, Array.length_toList]; have : s.data.size = s.size := rfl; omega
  have hnum : Ie.number s.data.toList = if Ie.digs 16 r = [] then none else if !Ie.isSfx (r.drop (Ie.digs 16 r).length) then none else if Ie.most < Ie.val 16 (Ie.digs 16 r) then none else some (Ie.val 16 (Ie.digs 16 r)) := by
    unfold Ie.number
    rw [hst]
    dsimp only
    rw [← hr]
  obtain ⟨Q, hQ⟩ : ∃ Q, Q = Ie.number s.data.toList := ⟨_, rfl⟩
  rw [← hQ] at hnum ⊢
  have HNUM := Lib.hid hnum
  have HR := Lib.hid hr
  have HRL := Lib.hid hrl
  have hend : ∀ (j : Nat), j ≤ r.length → (∀ x ∈ r.take j, Ie.dig x < 16) → (∀ c, r[j]? = some c → ¬ Ie.dig c < 16) → Ie.vf 16 0 (r.take j) ≤ 9223372036854775807 →
      Q = if k + j = k then none else if !Ie.isSfx (s.data.toList.drop (k + j)) then none else some (Ie.vf 16 0 (r.take j)) := fun j hj hall hstop hm => by
    rw [HNUM.out, rn_stop hall hj hstop]
    have e1 : (r.take j).length = j := by rw [List.length_take]; omega
    have e2 : r.drop j = s.data.toList.drop (k + j) := by rw [HR.out, List.drop_drop]
    rw [e1, e2]
    have e3 : Ie.val 16 (r.take j) = Ie.vf 16 0 (r.take j) := rfl
    rw [e3, if_neg (show ¬ Ie.most < Ie.vf 16 0 (r.take j) by unfold Ie.most; omega)]
    by_cases h0 : j = 0
    · rw [if_pos (show r.take j = [] by rw [h0]; rfl), if_pos (show k + j = k by omega)]
    · rw [if_neg (show ¬ r.take j = [] from fun e => h0 (by rw [e] at e1; exact e1.symm)), if_neg (show ¬ k + j = k by omega)]
  have HEND := Lib.hid hend
  clear hnum hr hrl hend hQ hst
  refine wp_sec 7 rnBody rfl ?_
  conv => arg 2; whnf
  go_wp2_with fail
  go_loop [5, 7] (fun vi vn => ∃ (j : Nat) (acc : Nat), vi = .int .i64 ((k + j : Nat) : Int) ∧ vn = .int .i64 acc ∧ j ≤ r.length ∧ acc ≤ 9223372036854775807 ∧ Hid (acc = Ie.vf 16 0 (r.take j) ∧ ∀ x ∈ r.take j, Ie.dig x < 16))
    (fun vi _ => s.size - (intOf vi).toNat)
  case atStart => exact ⟨0, 0, rfl, rfl, Nat.zero_le _, by omega, Lib.hid ⟨rfl, fun x hx => by simp at hx⟩⟩
  case round =>
    obtain ⟨j, acc, rfl, rfl, hj, hacc, hh⟩ := hrel
    have hrl := HRL.out
    by_cases hlt : j < r.length
    · obtain ⟨c, hc⟩ : ∃ c, r[j]? = some c := ⟨_, List.getElem?_eq_getElem hlt⟩
      have hsc : s.data.toList[k + j]? = some c := by rw [HR.out, List.getElem?_drop] at hc; exact hc
      have hi1 : k + j < s.size := by omega
      obtain ⟨h1, h2⟩ := List.getElem?_eq_some_iff.1 hsc
      obtain ⟨i, hi⟩ : ∃ i, i = k + j := ⟨_, rfl⟩
      rw [← hi] at hi1 hsc
      have g0 : ((s[i]'hi1).toNat : Int) = c.toNat := by
        obtain ⟨h1, h2⟩ := List.getElem?_eq_some_iff.1 hsc
        have : s[i]'hi1 = c := by rw [← h2]; rfl
        rw [this]
      rw [← hi]
      obtain ⟨D, hD⟩ : ∃ D, D = Ie.dig c := ⟨_, rfl⟩
      have K1 := rdigit9_any c w
      rw [← hD] at K1
      have HK := Lib.hid K1
      have HC := Lib.hid hc
      have HD := Lib.hid hD
      have HI := Lib.hid hi
      obtain ⟨C, hC⟩ : ∃ C : Int, C = c.toNat := ⟨_, rfl⟩
      rw [← hC] at g0 HK
      have z0 : (0 : Int) ≤ i := by omega
      have z1 : (i : Int) < s.size := by omega
      have HJ := Lib.hid (And.intro hj hlt)
      clear hsc h1 h2 K1 hc hD hi hC hj hlt hrl
      by_cases hd : D < 16
      · have hd1 : (D : Int) < 16 := by omega
        have hdm : (0 : Int) ≤ D := by omega
        by_cases hov : 9223372036854775807 < acc * 16 + D
        · have hq : Q = none := by
            rw [HNUM.out]
            have h3 := rn_over (by decide) HC.out (by rw [← HD.out]; exact hd) hh.out.2 (by rw [← hh.out.1, ← HD.out]; exact hov)
            rw [if_pos h3]
            split
            · rfl
            · split <;> rfl
          have HQN := Lib.hid hq
          have hg : ((9223372036854775807 - (D : Int)).tdiv 16) < acc := by rw [Int.tdiv_eq_ediv_of_nonneg (by omega)]; omega
          have hw1 : IntKind.i64.wrap ((9223372036854775807 - (D : Int)).tdiv 16) = (9223372036854775807 - (D : Int)).tdiv 16 := by
            have : 0 ≤ ((9223372036854775807 - (D : Int)).tdiv 16) := by rw [Int.tdiv_eq_ediv_of_nonneg (by omega)]; omega
            exact IntWalk.i64_in _ (by omega)
          obtain ⟨qq, hqq⟩ : ∃ qq, qq = (9223372036854775807 - (D : Int)).tdiv 16 := ⟨_, rfl⟩
          rw [← hqq] at hg
          clear hov hq
          go_wp2_with fail
          refine HK.out.mono ?_
          rintro e w' ⟨rfl, rfl⟩
          go_wp2_with fail
          go_ret2
          exact ⟨by rw [HQN.out]; rfl, Below.refl _ _⟩
        · have hg : (acc : Int) ≤ ((9223372036854775807 - (D : Int)).tdiv 16) := by rw [Int.tdiv_eq_ediv_of_nonneg (by omega)]; omega
          have hw1 : IntKind.i64.wrap ((9223372036854775807 - (D : Int)).tdiv 16) = (9223372036854775807 - (D : Int)).tdiv 16 := by
            have : 0 ≤ ((9223372036854775807 - (D : Int)).tdiv 16) := by rw [Int.tdiv_eq_ediv_of_nonneg (by omega)]; omega
            have : ((9223372036854775807 - (D : Int)).tdiv 16) ≤ 9223372036854775807 := by rw [Int.tdiv_eq_ediv_of_nonneg (by omega)]; omega
            exact IntWalk.i64_in _ (by omega)
          have hn1 : (acc : Int) * 16 + D ≤ 9223372036854775807 := by omega
          have HHH := Lib.hid hh.out
          have HOV := Lib.hid hov
          clear hov hh
          go_wp2_with fail
          refine HK.out.mono ?_
          rintro e w' ⟨rfl, rfl⟩
          go_wp2_with fail
          go_round
          case rel =>
            refine ⟨j + 1, acc * 16 + D, ?_, ?_, by have := HJ.out.2; omega, by have := HOV.out; omega, Lib.hid ⟨?_, ?_⟩⟩
            · have := HI.out
              first | (congr 1; omega) | (congr 1)
            · first | rfl | (congr 1; done) | (congr 1; omega)
            · rw [List.take_succ_eq_append_getElem HJ.out.2]
              have e : r[j]'HJ.out.2 = c := by
                have := HC.out
                rw [List.getElem?_eq_getElem HJ.out.2] at this
                exact Option.some.inj this
              rw [e]
              show _ = List.foldl _ 0 _
              rw [List.foldl_append]
              show _ = Ie.vf 16 0 (r.take j) * 16 + Ie.dig c
              rw [← HHH.out.1, ← HD.out]
            · intro x hx
              rw [List.take_succ_eq_append_getElem HJ.out.2] at hx
              rcases List.mem_append.1 hx with hx | hx
              · exact HHH.out.2 x hx
              · have e : r[j]'HJ.out.2 = c := by
                  have := HC.out
                  rw [List.getElem?_eq_getElem HJ.out.2] at this
                  exact Option.some.inj this
                rw [List.mem_singleton.1 hx, e, ← HD.out]
                exact hd
          case measure => simp [intOf]; omega
      · have hd1 : (16 : Int) ≤ D := by omega
        have hQ2 := HEND.out j HJ.out.1 hh.out.2 (fun c' hc' => by
          have := HC.out
          rw [hc'] at this
          rw [Option.some.inj this, ← HD.out]
          exact hd) (by rw [← hh.out.1]; exact hacc)
        rw [← hh.out.1, ← HI.out] at hQ2
        have HQ2 := Lib.hid hQ2
        have HI1 := Lib.hid (show i ≤ s.size by omega)
        clear hQ2 hh
        go_wp2_with fail
        refine HK.out.mono ?_
        rintro e w' ⟨rfl, rfl⟩
        go_wp2_with fail
        rw [HQ2.out]
        exact rn8 s i k acc hs HI1.out w' _ _ _ _ _ _ _ _ _ _ _ _ _ _ _ _ _ _ _ _ _ _ _ _ _ _ _ _ _ _ _ _ _ _ _ _ _ _ _ _ _ _ _ _ _ _ _ _ _ _ _ _ _ _ _ _ _ _ _ _ _ _ _ _ _ _ _ _ _
    · obtain rfl : j = r.length := by omega
      have hQ2 := HEND.out r.length hj hh.out.2 (fun c' hc' => by rw [List.getElem?_eq_none (Nat.le_refl _)] at hc'; cases hc') (by rw [← hh.out.1]; exact hacc)
      rw [← hh.out.1] at hQ2
      have HQ2 := Lib.hid hQ2
      have hks : k + r.length = s.size := by omega
      rw [hks] at HQ2 ⊢
      clear hQ2 hh
      go_wp2_with fail
      rw [HQ2.out]
      exact rn8 s s.size k acc hs (Nat.le_refl _) w _ _ _ _ _ _ _ _ _ _ _ _ _ _ _ _ _ _ _ _ _ _ _ _ _ _ _ _ _ _ _ _ _ _ _ _ _ _ _ _ _ _ _ _ _ _ _ _ _ _ _ _ _ _ _ _ _ _ _ _ _ _ _ _ _ _ _ _ _

set_option maxRecDepth 100000 in
set_option maxHeartbeats 1000000 in
theorem rnum9_any : NumC 14 Ie.number := by
  intro s w hG hs
  clear hG
  show Calls Tryz.prog 14 #[.string s] w (RnPost w (Ie.number s.data.toList))
  have hsz : s.data.toList.length = s.size := by rw [Array.length_toList]; rfl
  match hl : s.data.toList with
  | [] =>
    have h0 : s.size = 0 := by rw [← hsz, hl]; rfl
    have hst : Ie.start s.data.toList = (0, 10) := by rw [hl]; rfl
    rw [← hl]
    have key := rn7_10 s 0 hs (by omega) hst w
    clear hl hsz
    have KEY := Lib.hid key
    clear key hst
    go_enter Tryz.func14, Tryz.ntmps14
    show Code.wp Tryz.prog (secs 0 rnBody) _ _ _
    refine wp_sec 0 rnBody rfl ?_
    conv => arg 2; whnf
    go_wp2_with fail
    refine wp_sec 1 rnBody rfl ?_
    conv => arg 2; whnf
    go_wp2_with fail
    refine wp_sec 2 rnBody rfl ?_
    conv => arg 2; whnf
    go_wp2_with fail
    refine wp_sec 3 rnBody rfl ?_
    conv => arg 2; whnf
    go_wp2_with fail
    refine wp_sec 4 rnBody rfl ?_
    conv => arg 2; whnf
    go_wp2_with fail
    refine wp_sec 5 rnBody rfl ?_
    conv => arg 2; whnf
    go_wp2_with fail
    refine wp_sec 6 rnBody rfl ?_
    conv => arg 2; whnf
    go_wp2_with fail
    exact KEY.out _ _ _ _ _ _ _ _ _ _ _ _ _ _ _ _ _ _ _ _ _ _ _ _ _ _ _ _ _ _ _ _ _ _ _ _ _ _ _ _ _ _ _ _ _ _ _ _ _ _ _ _ _ _ _ _ _ _ _ _ _ _ _ _ _ _ _
  | [c] =>
    have h1 : s.size = 1 := by rw [← hsz, hl]; rfl
    have hi0 : 0 < s.size := by omega
    have g0 : ((s[0]'hi0).toNat : Int) = c.toNat := byte7 (by rw [hl]; rfl) _
    obtain ⟨C, hC⟩ : ∃ C : Int, C = c.toNat := ⟨_, rfl⟩
    rw [← hC] at g0
    by_cases hc : C = 48
    · have hst : Ie.start s.data.toList = (0, 8) := by rw [hl]; exact if_pos ((u8_iff (k := 48) (by decide)).2 (by rw [← hC]; exact hc))
      rw [← hl]
      have key := rn7_8 s 0 hs (by omega) hst w
      clear hl hsz hC
      have KEY := Lib.hid key
      clear key hst
      go_enter Tryz.func14, Tryz.ntmps14
      show Code.wp Tryz.prog (secs 0 rnBody) _ _ _
      refine wp_sec 0 rnBody rfl ?_
      conv => arg 2; whnf
      go_wp2_with fail
      refine wp_sec 1 rnBody rfl ?_
      conv => arg 2; whnf
      go_wp2_with fail
      refine wp_sec 2 rnBody rfl ?_
      conv => arg 2; whnf
      go_wp2_with fail
      refine wp_sec 3 rnBody rfl ?_
      conv => arg 2; whnf
      go_wp2_with fail
      refine wp_sec 4 rnBody rfl ?_
      conv => arg 2; whnf
      go_wp2_with fail
      refine wp_sec 5 rnBody rfl ?_
      conv => arg 2; whnf
      go_wp2_with fail
      refine wp_sec 6 rnBody rfl ?_
      conv => arg 2; whnf
      go_wp2_with fail
      exact KEY.out _ _ _ _ _ _ _ _ _ _ _ _ _ _ _ _ _ _ _ _ _ _ _ _ _ _ _ _ _ _ _ _ _ _ _ _ _ _ _ _ _ _ _ _ _ _ _ _ _ _ _ _ _ _ _ _ _ _ _ _ _ _ _ _ _ _ _
    · have hst : Ie.start s.data.toList = (0, 10) := by rw [hl]; exact if_neg fun h => hc (by rw [hC]; exact (u8_iff (k := 48) (by decide)).1 h)
      rw [← hl]
      have key := rn7_10 s 0 hs (by omega) hst w
      clear hl hsz hC
      have KEY := Lib.hid key
      clear key hst
      go_enter Tryz.func14, Tryz.ntmps14
      show Code.wp Tryz.prog (secs 0 rnBody) _ _ _
      refine wp_sec 0 rnBody rfl ?_
      conv => arg 2; whnf
      go_wp2_with fail
      refine wp_sec 1 rnBody rfl ?_
      conv => arg 2; whnf
      go_wp2_with fail
      refine wp_sec 2 rnBody rfl ?_
      conv => arg 2; whnf
      go_wp2_with fail
      refine wp_sec 3 rnBody rfl ?_
      conv => arg 2; whnf
      go_wp2_with fail
      refine wp_sec 4 rnBody rfl ?_
      conv => arg 2; whnf
      go_wp2_with fail
      refine wp_sec 5 rnBody rfl ?_
      conv => arg 2; whnf
      go_wp2_with fail
      refine wp_sec 6 rnBody rfl ?_
      conv => arg 2; whnf
      go_wp2_with fail
      exact KEY.out _ _ _ _ _ _ _ _ _ _ _ _ _ _ _ _ _ _ _ _ _ _ _ _ _ _ _ _ _ _ _ _ _ _ _ _ _ _ _ _ _ _ _ _ _ _ _ _ _ _ _ _ _ _ _ _ _ _ _ _ _ _ _ _ _ _ _
  | c :: d :: t =>
    have h2 : 2 ≤ s.size := by rw [← hsz, hl]; simp
    have hi0 : 0 < s.size := by omega
    have g0 : ((s[0]'hi0).toNat : Int) = c.toNat := byte7 (by rw [hl]; rfl) _
    have hi1 : 1 < s.size := by omega
    have g1 : ((s[1]'hi1).toNat : Int) = d.toNat := byte7 (by rw [hl]; rfl) _
    obtain ⟨C, hC⟩ : ∃ C : Int, C = c.toNat := ⟨_, rfl⟩
    obtain ⟨D, hD⟩ : ∃ D : Int, D = d.toNat := ⟨_, rfl⟩
    rw [← hC] at g0
    rw [← hD] at g1
    by_cases hc : C = 48
    · have hc' : c = 48 := (u8_iff (k := 48) (by decide)).2 (by rw [← hC]; exact hc)
      by_cases hd : D = 120 ∨ D = 88
      · have hd' : d = 120 ∨ d = 88 := by
          rcases hd with h | h
          · exact .inl ((u8_iff (k := 120) (by decide)).2 (by rw [← hD]; exact h))
          · exact .inr ((u8_iff (k := 88) (by decide)).2 (by rw [← hD]; exact h))
        have hst : Ie.start s.data.toList = (2, 16) := by rw [hl]; exact (if_pos hc').trans (if_pos hd')
        rw [← hl]
        have key := rn7_16 s 2 hs h2 hst w
        clear hl hsz hC hD hc' hd'
        rcases hd with hd | hd
        all_goals
          have KEY := Lib.hid key
          clear key hst
          go_enter Tryz.func14, Tryz.ntmps14
          show Code.wp Tryz.prog (secs 0 rnBody) _ _ _
          refine wp_sec 0 rnBody rfl ?_
          conv => arg 2; whnf
          go_wp2_with fail
          refine wp_sec 1 rnBody rfl ?_
          conv => arg 2; whnf
          go_wp2_with fail
          refine wp_sec 2 rnBody rfl ?_
          conv => arg 2; whnf
          go_wp2_with fail
          refine wp_sec 3 rnBody rfl ?_
          conv => arg 2; whnf
          go_wp2_with fail
          refine wp_sec 4 rnBody rfl ?_
          conv => arg 2; whnf
          go_wp2_with fail
          refine wp_sec 5 rnBody rfl ?_
          conv => arg 2; whnf
          go_wp2_with fail
          refine wp_sec 6 rnBody rfl ?_
          conv => arg 2; whnf
          go_wp2_with fail
          exact KEY.out _ _ _ _ _ _ _ _ _ _ _ _ _ _ _ _ _ _ _ _ _ _ _ _ _ _ _ _ _ _ _ _ _ _ _ _ _ _ _ _ _ _ _ _ _ _ _ _ _ _ _ _ _ _ _ _ _ _ _ _ _ _ _ _ _ _ _
      · have hd' : ¬ (d = 120 ∨ d = 88) := fun h => hd (by
          rcases h with h | h
          · exact .inl (by rw [hD]; exact (u8_iff (k := 120) (by decide)).1 h)
          · exact .inr (by rw [hD]; exact (u8_iff (k := 88) (by decide)).1 h))
        have hst : Ie.start s.data.toList = (0, 8) := by rw [hl]; exact (if_pos hc').trans (if_neg hd')
        rw [← hl]
        have key := rn7_8 s 0 hs (by omega) hst w
        have d1 : (D == 120) = false := beq_eq_false_iff_ne.2 fun h => hd (.inl h)
        have d2 : (D == 88) = false := beq_eq_false_iff_ne.2 fun h => hd (.inr h)
        clear hl hsz hC hD hc' hd' hd
        have KEY := Lib.hid key
        clear key hst
        go_enter Tryz.func14, Tryz.ntmps14
        show Code.wp Tryz.prog (secs 0 rnBody) _ _ _
        refine wp_sec 0 rnBody rfl ?_
        conv => arg 2; whnf
        go_wp2_with fail
        refine wp_sec 1 rnBody rfl ?_
        conv => arg 2; whnf
        go_wp2_with fail
        refine wp_sec 2 rnBody rfl ?_
        conv => arg 2; whnf
        go_wp2_with fail
        refine wp_sec 3 rnBody rfl ?_
        conv => arg 2; whnf
        go_wp2_with fail
        refine wp_sec 4 rnBody rfl ?_
        conv => arg 2; whnf
        go_wp2_with fail
        refine wp_sec 5 rnBody rfl ?_
        conv => arg 2; whnf
        go_wp2_with fail
        refine wp_sec 6 rnBody rfl ?_
        conv => arg 2; whnf
        go_wp2_with fail
        exact KEY.out _ _ _ _ _ _ _ _ _ _ _ _ _ _ _ _ _ _ _ _ _ _ _ _ _ _ _ _ _ _ _ _ _ _ _ _ _ _ _ _ _ _ _ _ _ _ _ _ _ _ _ _ _ _ _ _ _ _ _ _ _ _ _ _ _ _ _
    · have hst : Ie.start s.data.toList = (0, 10) := by rw [hl]; exact if_neg fun h => hc (by rw [hC]; exact (u8_iff (k := 48) (by decide)).1 h)
      rw [← hl]
      have key := rn7_10 s 0 hs (by omega) hst w
      clear hl hsz hC hD
      have KEY := Lib.hid key
      clear key hst
      go_enter Tryz.func14, Tryz.ntmps14
      show Code.wp Tryz.prog (secs 0 rnBody) _ _ _
      refine wp_sec 0 rnBody rfl ?_
      conv => arg 2; whnf
      go_wp2_with fail
      refine wp_sec 1 rnBody rfl ?_
      conv => arg 2; whnf
      go_wp2_with fail
      refine wp_sec 2 rnBody rfl ?_
      conv => arg 2; whnf
      go_wp2_with fail
      refine wp_sec 3 rnBody rfl ?_
      conv => arg 2; whnf
      go_wp2_with fail
      refine wp_sec 4 rnBody rfl ?_
      conv => arg 2; whnf
      go_wp2_with fail
      refine wp_sec 5 rnBody rfl ?_
      conv => arg 2; whnf
      go_wp2_with fail
      refine wp_sec 6 rnBody rfl ?_
      conv => arg 2; whnf
      go_wp2_with fail
      exact KEY.out _ _ _ _ _ _ _ _ _ _ _ _ _ _ _ _ _ _ _ _ _ _ _ _ _ _ _ _ _ _ _ _ _ _ _ _ _ _ _ _ _ _ _ _ _ _ _ _ _ _ _ _ _ _ _ _ _ _ _ _ _ _ _ _ _ _ _
end Go.Proofs.YtognifnalfjdgaaGreatDoor

/- What is proved: what the document's own Two makes of two numbers. -/
namespace Go.Proofs.YtognifnalfjdgaaGreatDoor
open Go.RowKit Go.Shelf

namespace Ie
theorem w64_eq (n : Int) : w64 n = (n + 9223372036854775808) % 18446744073709551616 - 9223372036854775808 := IntKind.wrap_i64 n
theorem w64_off (n k : Int) : w64 (n + k * 18446744073709551616) = w64 n := by rw [w64_eq, w64_eq]; omega
theorem w64_part (n : Int) : ∃ k, w64 n = n + k * 18446744073709551616 := ⟨-((n + 9223372036854775808) / 18446744073709551616), by rw [w64_eq]; omega⟩
theorem w64_in {n : Int} (h : -9223372036854775808 ≤ n) (h' : n ≤ 9223372036854775807) : w64 n = n := by rw [w64_eq]; omega
theorem w64_lo (n : Int) : -9223372036854775808 ≤ w64 n := by rw [w64_eq]; omega
theorem w64_hi (n : Int) : w64 n ≤ 9223372036854775807 := by rw [w64_eq]; omega
theorem w64_mul (x y : Int) : w64 (w64 x * y) = w64 (x * y) := by
  obtain ⟨k, hk⟩ := w64_part x
  rw [hk, Int.add_mul, show k * 18446744073709551616 * y = (k * y) * 18446744073709551616 by rw [Int.mul_assoc, Int.mul_comm 18446744073709551616 y, ← Int.mul_assoc]]
  exact w64_off _ _
theorem w64_sub (x y : Int) : w64 (x - w64 y) = w64 (x - y) := by
  obtain ⟨k, hk⟩ := w64_part y
  rw [hk, show x - (y + k * 18446744073709551616) = (x - y) + (-k) * 18446744073709551616 by rw [Int.neg_mul]; omega]
  exact w64_off _ _
/-- A number that an int64 holds. -/
def InR (a : Int) : Prop := -9223372036854775808 ≤ a ∧ a ≤ 9223372036854775807
theorem tmod_in {a b : Int} (h : InR a) : InR (a.tmod b) := by
  have h1 : (a.tmod b).natAbs ≤ a.natAbs := by rw [Int.natAbs_tmod]; exact Nat.mod_le _ _
  unfold InR at h ⊢
  rcases Int.lt_or_le a 0 with ha | ha
  · have h2 := Int.tmod_nonneg b (show 0 ≤ -a by omega)
    rw [Int.neg_tmod] at h2
    omega
  · have h2 := Int.tmod_nonneg b ha
    omega
theorem rem_w64 {a b : Int} (h : InR a) : w64 (a - w64 (w64 (a.tdiv b) * b)) = a.tmod b := by
  have e := Int.tdiv_mul_add_tmod a b
  rw [w64_mul, w64_sub, show a - a.tdiv b * b = a.tmod b by omega]
  have h2 := tmod_in (b := b) h
  exact w64_in h2.1 h2.2
end Ie

theorem one9_any (b : Bool) (w : World) : Calls Tryz.prog 43 #[.bool b] w fun e w' => e = .returned (.int .i64 (Ie.one b)) ∧ w' = w := by
  go_enter Tryz.func43, Tryz.ntmps43
  cases b
  · go_wp2_with fail
    go_ret
    exact ⟨rfl, rfl⟩
  · go_wp2_with fail
    go_ret
    exact ⟨rfl, rfl⟩
def TwoPost (p : Int × Int) (w : World) (e : Ending) (w' : World) : Prop := e = .returned (.tuple #[.int .i64 p.1, .int .i64 p.2]) ∧ w' = w
theorem ne_dec (a b : Int) : (a != b) = decide (a ≠ b) := by by_cases h : a = b <;> simp [h]

set_option maxRecDepth 100000 in
set_option maxHeartbeats 1000000 in
theorem rtwo_or (s : ByteArray) (a b : Int) (w : World) (hs : s = Ie.sOr) : Calls Tryz.prog 22 #[.string s, .int .i64 a, .int .i64 b] w (TwoPost (Ie.two s a b) w) := by
  have ht : Ie.two s a b = (Ie.one (b != 0), 0) := by rw [hs]; show (Ie.one (decide (b ≠ 0)), (0 : Int)) = _; rw [ne_dec]
  have HT := Lib.hid ht
  have eOr : (s.toList == [124, 124]) = true := lit_yes hs
  clear ht hs
  go_enter Tryz.func22, Tryz.ntmps22
  go_wp2_with fail
  refine (one9_any _ _).mono ?_
  rintro e w' ⟨rfl, rfl⟩
  go_wp2_with fail
  go_ret2
  exact ⟨by rw [HT.out]; rfl, rfl⟩

set_option maxRecDepth 100000 in
set_option maxHeartbeats 1000000 in
theorem rtwo_and (s : ByteArray) (a b : Int) (w : World) (hs : s = Ie.sAnd) : Calls Tryz.prog 22 #[.string s, .int .i64 a, .int .i64 b] w (TwoPost (Ie.two s a b) w) := by
  have ht : Ie.two s a b = (Ie.one (b != 0), 0) := by rw [hs]; show (Ie.one (decide (b ≠ 0)), (0 : Int)) = _; rw [ne_dec]
  have HT := Lib.hid ht
  have eOr : (s.toList == [124, 124]) = false := lit_no (by rw [hs]; decide)
  have eAnd : (s.toList == [38, 38]) = true := lit_yes hs
  clear ht hs
  go_enter Tryz.func22, Tryz.ntmps22
  go_wp2_with fail
  refine (one9_any _ _).mono ?_
  rintro e w' ⟨rfl, rfl⟩
  go_wp2_with fail
  go_ret2
  exact ⟨by rw [HT.out]; rfl, rfl⟩

set_option maxRecDepth 100000 in
set_option maxHeartbeats 1000000 in
theorem rtwo_bar (s : ByteArray) (a b : Int) (w : World) (hs : s = Ie.sBar) : Calls Tryz.prog 22 #[.string s, .int .i64 a, .int .i64 b] w (TwoPost (Ie.two s a b) w) := by
  have ht : Ie.two s a b = (Ie.bits (· ||| ·) a b, 0) := by rw [hs]; rfl
  have HT := Lib.hid ht
  have eOr : (s.toList == [124, 124]) = false := lit_no (by rw [hs]; decide)
  have eAnd : (s.toList == [38, 38]) = false := lit_no (by rw [hs]; decide)
  have eBar : (s.toList == [124]) = true := lit_yes hs
  clear ht hs
  go_enter Tryz.func22, Tryz.ntmps22
  go_wp2_with fail
  go_ret2
  exact ⟨by rw [HT.out]; rfl, rfl⟩

set_option maxRecDepth 100000 in
set_option maxHeartbeats 1000000 in
theorem rtwo_hat (s : ByteArray) (a b : Int) (w : World) (hs : s = Ie.sHat) : Calls Tryz.prog 22 #[.string s, .int .i64 a, .int .i64 b] w (TwoPost (Ie.two s a b) w) := by
  have ht : Ie.two s a b = (Ie.bits (· ^^^ ·) a b, 0) := by rw [hs]; rfl
  have HT := Lib.hid ht
  have eOr : (s.toList == [124, 124]) = false := lit_no (by rw [hs]; decide)
  have eAnd : (s.toList == [38, 38]) = false := lit_no (by rw [hs]; decide)
  have eBar : (s.toList == [124]) = false := lit_no (by rw [hs]; decide)
  have eHat : (s.toList == [94]) = true := lit_yes hs
  clear ht hs
  go_enter Tryz.func22, Tryz.ntmps22
  go_wp2_with fail
  go_ret2
  exact ⟨by rw [HT.out]; rfl, rfl⟩

set_option maxRecDepth 100000 in
set_option maxHeartbeats 1000000 in
theorem rtwo_amp (s : ByteArray) (a b : Int) (w : World) (hs : s = Ie.sAmp) : Calls Tryz.prog 22 #[.string s, .int .i64 a, .int .i64 b] w (TwoPost (Ie.two s a b) w) := by
  have ht : Ie.two s a b = (Ie.bits (· &&& ·) a b, 0) := by rw [hs]; rfl
  have HT := Lib.hid ht
  have eOr : (s.toList == [124, 124]) = false := lit_no (by rw [hs]; decide)
  have eAnd : (s.toList == [38, 38]) = false := lit_no (by rw [hs]; decide)
  have eBar : (s.toList == [124]) = false := lit_no (by rw [hs]; decide)
  have eHat : (s.toList == [94]) = false := lit_no (by rw [hs]; decide)
  have eAmp : (s.toList == [38]) = true := lit_yes hs
  clear ht hs
  go_enter Tryz.func22, Tryz.ntmps22
  go_wp2_with fail
  go_ret2
  exact ⟨by rw [HT.out]; rfl, rfl⟩

set_option maxRecDepth 100000 in
set_option maxHeartbeats 1000000 in
theorem rtwo_eq (s : ByteArray) (a b : Int) (w : World) (hs : s = Ie.sEq) : Calls Tryz.prog 22 #[.string s, .int .i64 a, .int .i64 b] w (TwoPost (Ie.two s a b) w) := by
  have ht : Ie.two s a b = (Ie.one (a == b), 0) := by rw [hs]; rfl
  have HT := Lib.hid ht
  have eOr : (s.toList == [124, 124]) = false := lit_no (by rw [hs]; decide)
  have eAnd : (s.toList == [38, 38]) = false := lit_no (by rw [hs]; decide)
  have eBar : (s.toList == [124]) = false := lit_no (by rw [hs]; decide)
  have eHat : (s.toList == [94]) = false := lit_no (by rw [hs]; decide)
  have eAmp : (s.toList == [38]) = false := lit_no (by rw [hs]; decide)
  have eEq : (s.toList == [61, 61]) = true := lit_yes hs
  clear ht hs
  go_enter Tryz.func22, Tryz.ntmps22
  go_wp2_with fail
  refine (one9_any _ _).mono ?_
  rintro e w' ⟨rfl, rfl⟩
  go_wp2_with fail
  go_ret2
  exact ⟨by rw [HT.out]; rfl, rfl⟩

set_option maxRecDepth 100000 in
set_option maxHeartbeats 1000000 in
theorem rtwo_ne (s : ByteArray) (a b : Int) (w : World) (hs : s = Ie.sNe) : Calls Tryz.prog 22 #[.string s, .int .i64 a, .int .i64 b] w (TwoPost (Ie.two s a b) w) := by
  have ht : Ie.two s a b = (Ie.one (a != b), 0) := by rw [hs]; show (Ie.one (decide (a ≠ b)), (0 : Int)) = _; rw [ne_dec]
  have HT := Lib.hid ht
  have eOr : (s.toList == [124, 124]) = false := lit_no (by rw [hs]; decide)
  have eAnd : (s.toList == [38, 38]) = false := lit_no (by rw [hs]; decide)
  have eBar : (s.toList == [124]) = false := lit_no (by rw [hs]; decide)
  have eHat : (s.toList == [94]) = false := lit_no (by rw [hs]; decide)
  have eAmp : (s.toList == [38]) = false := lit_no (by rw [hs]; decide)
  have eEq : (s.toList == [61, 61]) = false := lit_no (by rw [hs]; decide)
  have eNe : (s.toList == [33, 61]) = true := lit_yes hs
  clear ht hs
  go_enter Tryz.func22, Tryz.ntmps22
  go_wp2_with fail
  refine (one9_any _ _).mono ?_
  rintro e w' ⟨rfl, rfl⟩
  go_wp2_with fail
  go_ret2
  exact ⟨by rw [HT.out]; rfl, rfl⟩

set_option maxRecDepth 100000 in
set_option maxHeartbeats 1000000 in
theorem rtwo_lt (s : ByteArray) (a b : Int) (w : World) (hs : s = Ie.sLt) : Calls Tryz.prog 22 #[.string s, .int .i64 a, .int .i64 b] w (TwoPost (Ie.two s a b) w) := by
  have ht : Ie.two s a b = (Ie.one (decide (a < b)), 0) := by rw [hs]; rfl
  have HT := Lib.hid ht
  have eOr : (s.toList == [124, 124]) = false := lit_no (by rw [hs]; decide)
  have eAnd : (s.toList == [38, 38]) = false := lit_no (by rw [hs]; decide)
  have eBar : (s.toList == [124]) = false := lit_no (by rw [hs]; decide)
  have eHat : (s.toList == [94]) = false := lit_no (by rw [hs]; decide)
  have eAmp : (s.toList == [38]) = false := lit_no (by rw [hs]; decide)
  have eEq : (s.toList == [61, 61]) = false := lit_no (by rw [hs]; decide)
  have eNe : (s.toList == [33, 61]) = false := lit_no (by rw [hs]; decide)
  have eLt : (s.toList == [60]) = true := lit_yes hs
  clear ht hs
  go_enter Tryz.func22, Tryz.ntmps22
  go_wp2_with fail
  refine (one9_any _ _).mono ?_
  rintro e w' ⟨rfl, rfl⟩
  go_wp2_with fail
  go_ret2
  exact ⟨by rw [HT.out]; rfl, rfl⟩

set_option maxRecDepth 100000 in
set_option maxHeartbeats 1000000 in
theorem rtwo_gt (s : ByteArray) (a b : Int) (w : World) (hs : s = Ie.sGt) : Calls Tryz.prog 22 #[.string s, .int .i64 a, .int .i64 b] w (TwoPost (Ie.two s a b) w) := by
  have ht : Ie.two s a b = (Ie.one (decide (b < a)), 0) := by rw [hs]; rfl
  have HT := Lib.hid ht
  have eOr : (s.toList == [124, 124]) = false := lit_no (by rw [hs]; decide)
  have eAnd : (s.toList == [38, 38]) = false := lit_no (by rw [hs]; decide)
  have eBar : (s.toList == [124]) = false := lit_no (by rw [hs]; decide)
  have eHat : (s.toList == [94]) = false := lit_no (by rw [hs]; decide)
  have eAmp : (s.toList == [38]) = false := lit_no (by rw [hs]; decide)
  have eEq : (s.toList == [61, 61]) = false := lit_no (by rw [hs]; decide)
  have eNe : (s.toList == [33, 61]) = false := lit_no (by rw [hs]; decide)
  have eLt : (s.toList == [60]) = false := lit_no (by rw [hs]; decide)
  have eGt : (s.toList == [62]) = true := lit_yes hs
  clear ht hs
  go_enter Tryz.func22, Tryz.ntmps22
  go_wp2_with fail
  refine (one9_any _ _).mono ?_
  rintro e w' ⟨rfl, rfl⟩
  go_wp2_with fail
  go_ret2
  exact ⟨by rw [HT.out]; rfl, rfl⟩

set_option maxRecDepth 100000 in
set_option maxHeartbeats 1000000 in
theorem rtwo_le (s : ByteArray) (a b : Int) (w : World) (hs : s = Ie.sLe) : Calls Tryz.prog 22 #[.string s, .int .i64 a, .int .i64 b] w (TwoPost (Ie.two s a b) w) := by
  have ht : Ie.two s a b = (Ie.one (decide (a ≤ b)), 0) := by rw [hs]; rfl
  have HT := Lib.hid ht
  have eOr : (s.toList == [124, 124]) = false := lit_no (by rw [hs]; decide)
  have eAnd : (s.toList == [38, 38]) = false := lit_no (by rw [hs]; decide)
  have eBar : (s.toList == [124]) = false := lit_no (by rw [hs]; decide)
  have eHat : (s.toList == [94]) = false := lit_no (by rw [hs]; decide)
  have eAmp : (s.toList == [38]) = false := lit_no (by rw [hs]; decide)
  have eEq : (s.toList == [61, 61]) = false := lit_no (by rw [hs]; decide)
  have eNe : (s.toList == [33, 61]) = false := lit_no (by rw [hs]; decide)
  have eLt : (s.toList == [60]) = false := lit_no (by rw [hs]; decide)
  have eGt : (s.toList == [62]) = false := lit_no (by rw [hs]; decide)
  have eLe : (s.toList == [60, 61]) = true := lit_yes hs
  clear ht hs
  go_enter Tryz.func22, Tryz.ntmps22
  go_wp2_with fail
  refine (one9_any _ _).mono ?_
  rintro e w' ⟨rfl, rfl⟩
  go_wp2_with fail
  go_ret2
  exact ⟨by rw [HT.out]; rfl, rfl⟩

set_option maxRecDepth 100000 in
set_option maxHeartbeats 1000000 in
theorem rtwo_ge (s : ByteArray) (a b : Int) (w : World) (hs : s = Ie.sGe) : Calls Tryz.prog 22 #[.string s, .int .i64 a, .int .i64 b] w (TwoPost (Ie.two s a b) w) := by
  have ht : Ie.two s a b = (Ie.one (decide (b ≤ a)), 0) := by rw [hs]; rfl
  have HT := Lib.hid ht
  have eOr : (s.toList == [124, 124]) = false := lit_no (by rw [hs]; decide)
  have eAnd : (s.toList == [38, 38]) = false := lit_no (by rw [hs]; decide)
  have eBar : (s.toList == [124]) = false := lit_no (by rw [hs]; decide)
  have eHat : (s.toList == [94]) = false := lit_no (by rw [hs]; decide)
  have eAmp : (s.toList == [38]) = false := lit_no (by rw [hs]; decide)
  have eEq : (s.toList == [61, 61]) = false := lit_no (by rw [hs]; decide)
  have eNe : (s.toList == [33, 61]) = false := lit_no (by rw [hs]; decide)
  have eLt : (s.toList == [60]) = false := lit_no (by rw [hs]; decide)
  have eGt : (s.toList == [62]) = false := lit_no (by rw [hs]; decide)
  have eLe : (s.toList == [60, 61]) = false := lit_no (by rw [hs]; decide)
  have eGe : (s.toList == [62, 61]) = true := lit_yes hs
  clear ht hs
  go_enter Tryz.func22, Tryz.ntmps22
  go_wp2_with fail
  refine (one9_any _ _).mono ?_
  rintro e w' ⟨rfl, rfl⟩
  go_wp2_with fail
  go_ret2
  exact ⟨by rw [HT.out]; rfl, rfl⟩

set_option maxRecDepth 100000 in
set_option maxHeartbeats 1000000 in
theorem rtwo_add (s : ByteArray) (a b : Int) (w : World) (hs : s = Ie.sAdd) : Calls Tryz.prog 22 #[.string s, .int .i64 a, .int .i64 b] w (TwoPost (Ie.two s a b) w) := by
  have ht : Ie.two s a b = (Ie.w64 (a + b), 0) := by rw [hs]; rfl
  have HT := Lib.hid ht
  have eOr : (s.toList == [124, 124]) = false := lit_no (by rw [hs]; decide)
  have eAnd : (s.toList == [38, 38]) = false := lit_no (by rw [hs]; decide)
  have eBar : (s.toList == [124]) = false := lit_no (by rw [hs]; decide)
  have eHat : (s.toList == [94]) = false := lit_no (by rw [hs]; decide)
  have eAmp : (s.toList == [38]) = false := lit_no (by rw [hs]; decide)
  have eEq : (s.toList == [61, 61]) = false := lit_no (by rw [hs]; decide)
  have eNe : (s.toList == [33, 61]) = false := lit_no (by rw [hs]; decide)
  have eLt : (s.toList == [60]) = false := lit_no (by rw [hs]; decide)
  have eGt : (s.toList == [62]) = false := lit_no (by rw [hs]; decide)
  have eLe : (s.toList == [60, 61]) = false := lit_no (by rw [hs]; decide)
  have eGe : (s.toList == [62, 61]) = false := lit_no (by rw [hs]; decide)
  have eAdd : (s.toList == [43]) = true := lit_yes hs
  clear ht hs
  go_enter Tryz.func22, Tryz.ntmps22
  go_wp2_with fail
  go_ret2
  exact ⟨by rw [HT.out, ← wrap64_w]; rfl, rfl⟩

set_option maxRecDepth 100000 in
set_option maxHeartbeats 1000000 in
theorem rtwo_sub (s : ByteArray) (a b : Int) (w : World) (hs : s = Ie.sSub) : Calls Tryz.prog 22 #[.string s, .int .i64 a, .int .i64 b] w (TwoPost (Ie.two s a b) w) := by
  have ht : Ie.two s a b = (Ie.w64 (a - b), 0) := by rw [hs]; rfl
  have HT := Lib.hid ht
  have eOr : (s.toList == [124, 124]) = false := lit_no (by rw [hs]; decide)
  have eAnd : (s.toList == [38, 38]) = false := lit_no (by rw [hs]; decide)
  have eBar : (s.toList == [124]) = false := lit_no (by rw [hs]; decide)
  have eHat : (s.toList == [94]) = false := lit_no (by rw [hs]; decide)
  have eAmp : (s.toList == [38]) = false := lit_no (by rw [hs]; decide)
  have eEq : (s.toList == [61, 61]) = false := lit_no (by rw [hs]; decide)
  have eNe : (s.toList == [33, 61]) = false := lit_no (by rw [hs]; decide)
  have eLt : (s.toList == [60]) = false := lit_no (by rw [hs]; decide)
  have eGt : (s.toList == [62]) = false := lit_no (by rw [hs]; decide)
  have eLe : (s.toList == [60, 61]) = false := lit_no (by rw [hs]; decide)
  have eGe : (s.toList == [62, 61]) = false := lit_no (by rw [hs]; decide)
  have eAdd : (s.toList == [43]) = false := lit_no (by rw [hs]; decide)
  have eSub : (s.toList == [45]) = true := lit_yes hs
  clear ht hs
  go_enter Tryz.func22, Tryz.ntmps22
  go_wp2_with fail
  go_ret2
  exact ⟨by rw [HT.out, ← wrap64_w]; rfl, rfl⟩

set_option maxRecDepth 100000 in
set_option maxHeartbeats 1000000 in
theorem rtwo_mul (s : ByteArray) (a b : Int) (w : World) (hs : s = Ie.sMul) : Calls Tryz.prog 22 #[.string s, .int .i64 a, .int .i64 b] w (TwoPost (Ie.two s a b) w) := by
  have ht : Ie.two s a b = (Ie.w64 (a * b), 0) := by rw [hs]; rfl
  have HT := Lib.hid ht
  have eOr : (s.toList == [124, 124]) = false := lit_no (by rw [hs]; decide)
  have eAnd : (s.toList == [38, 38]) = false := lit_no (by rw [hs]; decide)
  have eBar : (s.toList == [124]) = false := lit_no (by rw [hs]; decide)
  have eHat : (s.toList == [94]) = false := lit_no (by rw [hs]; decide)
  have eAmp : (s.toList == [38]) = false := lit_no (by rw [hs]; decide)
  have eEq : (s.toList == [61, 61]) = false := lit_no (by rw [hs]; decide)
  have eNe : (s.toList == [33, 61]) = false := lit_no (by rw [hs]; decide)
  have eLt : (s.toList == [60]) = false := lit_no (by rw [hs]; decide)
  have eGt : (s.toList == [62]) = false := lit_no (by rw [hs]; decide)
  have eLe : (s.toList == [60, 61]) = false := lit_no (by rw [hs]; decide)
  have eGe : (s.toList == [62, 61]) = false := lit_no (by rw [hs]; decide)
  have eAdd : (s.toList == [43]) = false := lit_no (by rw [hs]; decide)
  have eSub : (s.toList == [45]) = false := lit_no (by rw [hs]; decide)
  have eMul : (s.toList == [42]) = true := lit_yes hs
  clear ht hs
  go_enter Tryz.func22, Tryz.ntmps22
  go_wp2_with fail
  go_ret2
  exact ⟨by rw [HT.out, ← wrap64_w]; rfl, rfl⟩

set_option maxRecDepth 100000 in
set_option maxHeartbeats 4000000 in
theorem rtwo_shl (s : ByteArray) (a b : Int) (w : World) (ha : Ie.InR a) (hs : s = Ie.sShl) : Calls Tryz.prog 22 #[.string s, .int .i64 a, .int .i64 b] w (TwoPost (Ie.two s a b) w) := by
  have ht : Ie.two s a b = if b < 0 ∨ 63 < b then (0, 93) else (Ie.w64 (a * 2 ^ b.toNat), 0) := by rw [hs]; rfl
  have eOr : (s.toList == [124, 124]) = false := lit_no (by rw [hs]; decide)
  have eAnd : (s.toList == [38, 38]) = false := lit_no (by rw [hs]; decide)
  have eBar : (s.toList == [124]) = false := lit_no (by rw [hs]; decide)
  have eHat : (s.toList == [94]) = false := lit_no (by rw [hs]; decide)
  have eAmp : (s.toList == [38]) = false := lit_no (by rw [hs]; decide)
  have eEq : (s.toList == [61, 61]) = false := lit_no (by rw [hs]; decide)
  have eNe : (s.toList == [33, 61]) = false := lit_no (by rw [hs]; decide)
  have eLt : (s.toList == [60]) = false := lit_no (by rw [hs]; decide)
  have eGt : (s.toList == [62]) = false := lit_no (by rw [hs]; decide)
  have eLe : (s.toList == [60, 61]) = false := lit_no (by rw [hs]; decide)
  have eGe : (s.toList == [62, 61]) = false := lit_no (by rw [hs]; decide)
  have eAdd : (s.toList == [43]) = false := lit_no (by rw [hs]; decide)
  have eSub : (s.toList == [45]) = false := lit_no (by rw [hs]; decide)
  have eMul : (s.toList == [42]) = false := lit_no (by rw [hs]; decide)
  have eShl : (s.toList == [60, 60]) = true := lit_yes hs
  clear hs
  by_cases hb : b < 0 ∨ 63 < b
  · rw [if_pos hb] at ht
    have HT := Lib.hid ht
    clear ht
    rcases hb with hb | hb
    all_goals
      go_enter Tryz.func22, Tryz.ntmps22
      go_wp2_with fail
      go_ret2
      exact ⟨by rw [HT.out]; rfl, rfl⟩
  · rw [if_neg hb] at ht
    obtain ⟨n, rfl⟩ : ∃ n : Nat, b = n := ⟨b.toNat, by omega⟩
    have hn : n ≤ 63 := by omega
    have HT := Lib.hid ht
    have z1 : ¬ ((n : Int) < 0) := by omega
    have z2 : ¬ (63 < (n : Int)) := by omega
    have HA := Lib.hid ha
    clear ht hb ha
    go_enter Tryz.func22, Tryz.ntmps22
    go_wp2_with fail
    go_loop [1, 8] (fun va vi => ∃ (k : Nat) (x : Int), va = .int .i64 x ∧ vi = .int .i64 k ∧ k ≤ n ∧ Hid (x = Ie.w64 (a * 2 ^ k))) (fun _ vi => n - (intOf vi).toNat)
    case atStart => exact ⟨0, a, rfl, rfl, Nat.zero_le _, Lib.hid (by rw [Int.pow_zero, Int.mul_one, Ie.w64_in HA.out.1 HA.out.2])⟩
    case round =>
      obtain ⟨k, x, rfl, rfl, hk, HX⟩ := hrel
      by_cases hlt : k < n
      · go_wp2_with fail
        go_round
        case rel =>
          refine ⟨k + 1, _, rfl, by go_num, by omega, Lib.hid ?_⟩
          rw [wrap64_w, HX.out, Ie.w64_mul, Int.pow_succ, Int.mul_assoc]
        case measure => simp [intOf]; omega
      · obtain rfl : k = n := by omega
        go_wp2_with fail
        go_ret2
        exact ⟨by rw [HT.out, HX.out]; rfl, rfl⟩

set_option maxRecDepth 100000 in
set_option maxHeartbeats 4000000 in
theorem rtwo_shr (s : ByteArray) (a b : Int) (w : World) (ha : Ie.InR a) (hs : s = Ie.sShr) : Calls Tryz.prog 22 #[.string s, .int .i64 a, .int .i64 b] w (TwoPost (Ie.two s a b) w) := by
  have ht : Ie.two s a b = if b < 0 ∨ 63 < b then (0, 93) else (a / 2 ^ b.toNat, 0) := by rw [hs]; rfl
  have eOr : (s.toList == [124, 124]) = false := lit_no (by rw [hs]; decide)
  have eAnd : (s.toList == [38, 38]) = false := lit_no (by rw [hs]; decide)
  have eBar : (s.toList == [124]) = false := lit_no (by rw [hs]; decide)
  have eHat : (s.toList == [94]) = false := lit_no (by rw [hs]; decide)
  have eAmp : (s.toList == [38]) = false := lit_no (by rw [hs]; decide)
  have eEq : (s.toList == [61, 61]) = false := lit_no (by rw [hs]; decide)
  have eNe : (s.toList == [33, 61]) = false := lit_no (by rw [hs]; decide)
  have eLt : (s.toList == [60]) = false := lit_no (by rw [hs]; decide)
  have eGt : (s.toList == [62]) = false := lit_no (by rw [hs]; decide)
  have eLe : (s.toList == [60, 61]) = false := lit_no (by rw [hs]; decide)
  have eGe : (s.toList == [62, 61]) = false := lit_no (by rw [hs]; decide)
  have eAdd : (s.toList == [43]) = false := lit_no (by rw [hs]; decide)
  have eSub : (s.toList == [45]) = false := lit_no (by rw [hs]; decide)
  have eMul : (s.toList == [42]) = false := lit_no (by rw [hs]; decide)
  have eShl : (s.toList == [60, 60]) = false := lit_no (by rw [hs]; decide)
  have eShr : (s.toList == [62, 62]) = true := lit_yes hs
  clear hs
  by_cases hb : b < 0 ∨ 63 < b
  · rw [if_pos hb] at ht
    have HT := Lib.hid ht
    clear ht
    rcases hb with hb | hb
    all_goals
      go_enter Tryz.func22, Tryz.ntmps22
      go_wp2_with fail
      go_ret2
      exact ⟨by rw [HT.out]; rfl, rfl⟩
  · rw [if_neg hb] at ht
    obtain ⟨n, rfl⟩ : ∃ n : Nat, b = n := ⟨b.toNat, by omega⟩
    have hn : n ≤ 63 := by omega
    have HT := Lib.hid ht
    have z1 : ¬ ((n : Int) < 0) := by omega
    have z2 : ¬ (63 < (n : Int)) := by omega
    have HA := Lib.hid ha
    clear ht hb ha
    go_enter Tryz.func22, Tryz.ntmps22
    go_wp2_with fail
    go_loop [1, 8] (fun va vi => ∃ (k : Nat) (x : Int), va = .int .i64 x ∧ vi = .int .i64 k ∧ k ≤ n ∧ Hid (x = a / 2 ^ k)) (fun _ vi => n - (intOf vi).toNat)
    case atStart => exact ⟨0, a, rfl, rfl, Nat.zero_le _, Lib.hid (by rw [Int.pow_zero, Int.ediv_one])⟩
    case round =>
      obtain ⟨k, x, rfl, rfl, hk, HX⟩ := hrel
      by_cases hlt : k < n
      · go_wp2_with fail
        go_round
        case rel =>
          refine ⟨k + 1, _, rfl, by go_num, by omega, Lib.hid ?_⟩
          rw [HX.out, Int.pow_succ, ← Int.ediv_ediv_of_nonneg (Int.le_of_lt (Int.pow_pos (by decide)))]
        case measure => simp [intOf]; omega
      · obtain rfl : k = n := by omega
        go_wp2_with fail
        go_ret2
        exact ⟨by rw [HT.out, HX.out]; rfl, rfl⟩

set_option maxRecDepth 100000 in
set_option maxHeartbeats 1000000 in
theorem rtwo_quo (s : ByteArray) (a b : Int) (w : World) (ha : Ie.InR a) (hs : s = Ie.sQuo) : Calls Tryz.prog 22 #[.string s, .int .i64 a, .int .i64 b] w (TwoPost (Ie.two s a b) w) := by
  have ht : Ie.two s a b = if b = 0 then (0, 92) else (Ie.w64 (a.tdiv b), 0) := by rw [hs]; rfl
  have eOr : (s.toList == [124, 124]) = false := lit_no (by rw [hs]; decide)
  have eAnd : (s.toList == [38, 38]) = false := lit_no (by rw [hs]; decide)
  have eBar : (s.toList == [124]) = false := lit_no (by rw [hs]; decide)
  have eHat : (s.toList == [94]) = false := lit_no (by rw [hs]; decide)
  have eAmp : (s.toList == [38]) = false := lit_no (by rw [hs]; decide)
  have eEq : (s.toList == [61, 61]) = false := lit_no (by rw [hs]; decide)
  have eNe : (s.toList == [33, 61]) = false := lit_no (by rw [hs]; decide)
  have eLt : (s.toList == [60]) = false := lit_no (by rw [hs]; decide)
  have eGt : (s.toList == [62]) = false := lit_no (by rw [hs]; decide)
  have eLe : (s.toList == [60, 61]) = false := lit_no (by rw [hs]; decide)
  have eGe : (s.toList == [62, 61]) = false := lit_no (by rw [hs]; decide)
  have eAdd : (s.toList == [43]) = false := lit_no (by rw [hs]; decide)
  have eSub : (s.toList == [45]) = false := lit_no (by rw [hs]; decide)
  have eMul : (s.toList == [42]) = false := lit_no (by rw [hs]; decide)
  have eShl : (s.toList == [60, 60]) = false := lit_no (by rw [hs]; decide)
  have eShr : (s.toList == [62, 62]) = false := lit_no (by rw [hs]; decide)
  have eQuo : (s.toList == [47]) = true := lit_yes hs
  clear hs
  have HA := Lib.hid ha
  clear ha
  by_cases hb : b = 0
  · rw [if_pos hb] at ht
    have HT := Lib.hid ht
    clear ht
    go_enter Tryz.func22, Tryz.ntmps22
    go_wp2_with fail
    go_ret2
    exact ⟨by rw [HT.out]; rfl, rfl⟩
  · rw [if_neg hb] at ht
    have HT := Lib.hid ht
    clear ht
    go_enter Tryz.func22, Tryz.ntmps22
    go_wp2_with fail
    go_ret2
    refine ⟨?_, rfl⟩
    rw [HT.out]
    rw [← wrap64_w]; rfl

set_option maxRecDepth 100000 in
set_option maxHeartbeats 1000000 in
theorem rtwo_rem (s : ByteArray) (a b : Int) (w : World) (ha : Ie.InR a) (hs : s = Ie.sRem) : Calls Tryz.prog 22 #[.string s, .int .i64 a, .int .i64 b] w (TwoPost (Ie.two s a b) w) := by
  have ht : Ie.two s a b = if b = 0 then (0, 92) else (a.tmod b, 0) := by rw [hs]; rfl
  have eOr : (s.toList == [124, 124]) = false := lit_no (by rw [hs]; decide)
  have eAnd : (s.toList == [38, 38]) = false := lit_no (by rw [hs]; decide)
  have eBar : (s.toList == [124]) = false := lit_no (by rw [hs]; decide)
  have eHat : (s.toList == [94]) = false := lit_no (by rw [hs]; decide)
  have eAmp : (s.toList == [38]) = false := lit_no (by rw [hs]; decide)
  have eEq : (s.toList == [61, 61]) = false := lit_no (by rw [hs]; decide)
  have eNe : (s.toList == [33, 61]) = false := lit_no (by rw [hs]; decide)
  have eLt : (s.toList == [60]) = false := lit_no (by rw [hs]; decide)
  have eGt : (s.toList == [62]) = false := lit_no (by rw [hs]; decide)
  have eLe : (s.toList == [60, 61]) = false := lit_no (by rw [hs]; decide)
  have eGe : (s.toList == [62, 61]) = false := lit_no (by rw [hs]; decide)
  have eAdd : (s.toList == [43]) = false := lit_no (by rw [hs]; decide)
  have eSub : (s.toList == [45]) = false := lit_no (by rw [hs]; decide)
  have eMul : (s.toList == [42]) = false := lit_no (by rw [hs]; decide)
  have eShl : (s.toList == [60, 60]) = false := lit_no (by rw [hs]; decide)
  have eShr : (s.toList == [62, 62]) = false := lit_no (by rw [hs]; decide)
  have eQuo : (s.toList == [47]) = false := lit_no (by rw [hs]; decide)
  clear hs
  have HA := Lib.hid ha
  clear ha
  by_cases hb : b = 0
  · rw [if_pos hb] at ht
    have HT := Lib.hid ht
    clear ht
    go_enter Tryz.func22, Tryz.ntmps22
    go_wp2_with fail
    go_ret2
    exact ⟨by rw [HT.out]; rfl, rfl⟩
  · rw [if_neg hb] at ht
    have HT := Lib.hid ht
    clear ht
    go_enter Tryz.func22, Tryz.ntmps22
    go_wp2_with fail
    go_ret2
    refine ⟨?_, rfl⟩
    rw [HT.out]
    rw [← Ie.rem_w64 HA.out, ← wrap64_w, ← wrap64_w, ← wrap64_w]; rfl

theorem rtwo_any (s : ByteArray) (a b : Int) (w : World) (ha : Ie.InR a) (hs : Ie.lvS s ≠ 0) : Calls Tryz.prog 22 #[.string s, .int .i64 a, .int .i64 b] w (TwoPost (Ie.two s a b) w) := by
  rcases lv_cases hs with h | h | (h | h | h | h | h | h) | (h | h) | (h | h) | (h | h | h | h | h | h)
  · exact rtwo_or s a b w h
  · exact rtwo_and s a b w h
  · exact rtwo_eq s a b w h
  · exact rtwo_ne s a b w h
  · exact rtwo_lt s a b w h
  · exact rtwo_gt s a b w h
  · exact rtwo_le s a b w h
  · exact rtwo_ge s a b w h
  · exact rtwo_shl s a b w ha h
  · exact rtwo_shr s a b w ha h
  · exact rtwo_quo s a b w ha h
  · exact rtwo_rem s a b w ha h
  · exact rtwo_bar s a b w h
  · exact rtwo_hat s a b w h
  · exact rtwo_amp s a b w h
  · exact rtwo_add s a b w h
  · exact rtwo_sub s a b w h
  · exact rtwo_mul s a b w h
end Go.Proofs.YtognifnalfjdgaaGreatDoor

/- The document's expressions in memory. -/
namespace Go.Proofs.YtognifnalfjdgaaGreatDoor
open Go.RowKit Go.Shelf

namespace Ie
def sBad : ByteArray := ⟨#[98, 97, 100]⟩
/-- What it is by, what it counts, and its parts. -/
def sgnOf : E → ByteArray
  | .num _ => ⟨#[]⟩ | .bad => sBad | .un s _ => s | .bin s _ _ => s | .ask _ _ _ => sAsk
def numOf : E → Int
  | .num n => n | _ => 0
def kids : E → List E
  | .num _ => [] | .bad => [] | .un _ x => [x] | .bin _ x y => [x, y] | .ask x y z => [x, y, z]
/-- Whether its sign is one that may be. -/
def fine : E → Prop
  | .num n => InR n | .bad => True | .un s _ => isUn s = true | .bin s _ _ => lvS s ≠ 0 | .ask _ _ _ => True
end Ie

/-- Three cells: an expression's own. -/
def C3 (W : World) (b o : Nat) (s : ByteArray) (n : Int) (k : Value) : Prop := W.cell? ⟨b, o, none⟩ = some (.string s) ∧ W.cell? ⟨b, o + 1, none⟩ = some (.int .i64 n) ∧ W.cell? ⟨b, o + 2, none⟩ = some k
/-- An expression in memory: its parts stand in blocks that may be used. -/
def Nd (ok : Nat → Prop) (W : World) : Ie.E → ByteArray → Int → Value → Prop
  | .num n, s, m, k => s = ⟨#[]⟩ ∧ m = n ∧ k = .slice none 0 0 ∧ Ie.InR n
  | .bad, s, m, k => s = Ie.sBad ∧ m = 0 ∧ k = .slice none 0 0
  | .un g x, s, m, k => s = g ∧ m = 0 ∧ Ie.isUn g = true ∧ ∃ b s1 n1 k1, k = .slice (some ⟨b, 0, none⟩) 1 1 ∧ ok b ∧ C3 W b 0 s1 n1 k1 ∧ Nd ok W x s1 n1 k1
  | .bin g x y, s, m, k => s = g ∧ m = 0 ∧ Ie.lvS g ≠ 0 ∧ ∃ b s1 n1 k1 s2 n2 k2, k = .slice (some ⟨b, 0, none⟩) 2 2 ∧ ok b ∧ C3 W b 0 s1 n1 k1 ∧ Nd ok W x s1 n1 k1 ∧ C3 W b 3 s2 n2 k2 ∧ Nd ok W y s2 n2 k2
  | .ask x y z, s, m, k => s = Ie.sAsk ∧ m = 0 ∧ ∃ b s1 n1 k1 s2 n2 k2 s3 n3 k3, k = .slice (some ⟨b, 0, none⟩) 3 3 ∧ ok b ∧ C3 W b 0 s1 n1 k1 ∧ Nd ok W x s1 n1 k1 ∧ C3 W b 3 s2 n2 k2 ∧ Nd ok W y s2 n2 k2 ∧ C3 W b 6 s3 n3 k3 ∧ Nd ok W z s3 n3 k3

/-- Its parts, however many: a slice of them. -/
def Kd (ok : Nat → Prop) (W : World) (k : Value) (l : List Ie.E) : Prop :=
  ∃ ad, k = .slice ad l.length l.length ∧ ∀ i y, l[i]? = some y → ∃ b s n k', ad = some ⟨b, 0, none⟩ ∧ ok b ∧ C3 W b (i * 3) s n k' ∧ Nd ok W y s n k'
theorem Nd.parts {ok : Nat → Prop} {W : World} {x : Ie.E} {s : ByteArray} {m : Int} {k : Value} (h : Nd ok W x s m k) : s = Ie.sgnOf x ∧ m = Ie.numOf x ∧ Ie.fine x ∧ Kd ok W k (Ie.kids x) := by
  cases x with
  | num n =>
    obtain ⟨rfl, rfl, rfl, h⟩ := h
    exact ⟨rfl, rfl, h, none, rfl, fun i y hy => by simp [Ie.kids] at hy⟩
  | bad =>
    obtain ⟨rfl, rfl, rfl⟩ := h
    exact ⟨rfl, rfl, trivial, none, rfl, fun i y hy => by simp [Ie.kids] at hy⟩
  | un g x =>
    obtain ⟨rfl, rfl, hg, b, s1, n1, k1, rfl, hb, c1, h1⟩ := h
    refine ⟨rfl, rfl, hg, some ⟨b, 0, none⟩, rfl, fun i y hy => ?_⟩
    match i, hy with
    | 0, hy => obtain rfl := Option.some.inj hy; exact ⟨b, s1, n1, k1, rfl, hb, c1, h1⟩
    | n + 1, hy => simp [Ie.kids] at hy
  | bin g x y =>
    obtain ⟨rfl, rfl, hg, b, s1, n1, k1, s2, n2, k2, rfl, hb, c1, h1, c2, h2⟩ := h
    refine ⟨rfl, rfl, hg, some ⟨b, 0, none⟩, rfl, fun i y hy => ?_⟩
    match i, hy with
    | 0, hy => obtain rfl := Option.some.inj hy; exact ⟨b, s1, n1, k1, rfl, hb, c1, h1⟩
    | 1, hy => obtain rfl := Option.some.inj hy; exact ⟨b, s2, n2, k2, rfl, hb, c2, h2⟩
    | n + 2, hy => simp [Ie.kids] at hy
  | ask x y z =>
    obtain ⟨rfl, rfl, b, s1, n1, k1, s2, n2, k2, s3, n3, k3, rfl, hb, c1, h1, c2, h2, c3, h3⟩ := h
    refine ⟨rfl, rfl, trivial, some ⟨b, 0, none⟩, rfl, fun i y hy => ?_⟩
    match i, hy with
    | 0, hy => obtain rfl := Option.some.inj hy; exact ⟨b, s1, n1, k1, rfl, hb, c1, h1⟩
    | 1, hy => obtain rfl := Option.some.inj hy; exact ⟨b, s2, n2, k2, rfl, hb, c2, h2⟩
    | 2, hy => obtain rfl := Option.some.inj hy; exact ⟨b, s3, n3, k3, rfl, hb, c3, h3⟩
    | n + 3, hy => simp [Ie.kids] at hy
theorem cell_lt {W : World} {b o : Nat} {v : Value} (h : W.cell? ⟨b, o, none⟩ = some v) : b < W.heap.size := by
  rcases Nat.lt_or_ge b W.heap.size with hb | hb
  · exact hb
  · exfalso
    unfold World.cell? at h
    rw [Array.getElem?_eq_none hb] at h
    simp at h
theorem C3.keep {W W' : World} {b o : Nat} {s : ByteArray} {n : Int} {k : Value} (h : C3 W b o s n k) (hk : ∀ o v, W.cell? ⟨b, o, none⟩ = some v → W'.cell? ⟨b, o, none⟩ = some v) : C3 W' b o s n k := ⟨hk _ _ h.1, hk _ _ h.2.1, hk _ _ h.2.2⟩
theorem C3.lt {W : World} {b o : Nat} {s : ByteArray} {n : Int} {k : Value} (h : C3 W b o s n k) : b < W.heap.size := cell_lt h.1
/-- What is kept is kept, in fewer or more blocks. -/
theorem Nd.keep {ok ok' : Nat → Prop} {W W' : World} (hk : ∀ b, ok b → b < W.heap.size → ok' b ∧ ∀ o v, W.cell? ⟨b, o, none⟩ = some v → W'.cell? ⟨b, o, none⟩ = some v) : ∀ {x : Ie.E} {s : ByteArray} {m : Int} {k : Value}, Nd ok W x s m k → Nd ok' W' x s m k
  | .num n, s, m, k, h => h
  | .bad, s, m, k, h => h
  | .un g x, s, m, k, ⟨e1, e2, e3, b, s1, n1, k1, e4, hb, c1, h1⟩ => by
    obtain ⟨q1, q2⟩ := hk b hb c1.lt
    exact ⟨e1, e2, e3, b, s1, n1, k1, e4, q1, c1.keep q2, h1.keep hk⟩
  | .bin g x y, s, m, k, ⟨e1, e2, e3, b, s1, n1, k1, s2, n2, k2, e4, hb, c1, h1, c2, h2⟩ => by
    obtain ⟨q1, q2⟩ := hk b hb c1.lt
    exact ⟨e1, e2, e3, b, s1, n1, k1, s2, n2, k2, e4, q1, c1.keep q2, h1.keep hk, c2.keep q2, h2.keep hk⟩
  | .ask x y z, s, m, k, ⟨e1, e2, b, s1, n1, k1, s2, n2, k2, s3, n3, k3, e4, hb, c1, h1, c2, h2, c3, h3⟩ => by
    obtain ⟨q1, q2⟩ := hk b hb c1.lt
    exact ⟨e1, e2, b, s1, n1, k1, s2, n2, k2, s3, n3, k3, e4, q1, c1.keep q2, h1.keep hk, c2.keep q2, h2.keep hk, c3.keep q2, h3.keep hk⟩
theorem below_cells {W W' : World} (h : Below W.heap.size W W') {b : Nat} (hb : b < W.heap.size) : ∀ o v, W.cell? ⟨b, o, none⟩ = some v → W'.cell? ⟨b, o, none⟩ = some v := fun o _ e => (h.cell (p := ⟨b, o, none⟩) hb).trans e
theorem Nd.below {ok : Nat → Prop} {W W' : World} {x : Ie.E} {s : ByteArray} {m : Int} {k : Value} (h : Nd ok W x s m k) (hB : Below W.heap.size W W') : Nd ok W' x s m k := h.keep fun _ hb hl => ⟨hb, below_cells hB hl⟩
theorem C3.below {W W' : World} {b o : Nat} {s : ByteArray} {n : Int} {k : Value} (h : C3 W b o s n k) (hB : Below W.heap.size W W') : C3 W' b o s n k := h.keep (below_cells hB h.lt)
theorem Nd.slice {ok : Nat → Prop} {W : World} {x : Ie.E} {s : ByteArray} {m : Int} {k : Value} (h : Nd ok W x s m k) : ∃ ad, k = .slice ad (Ie.kids x).length (Ie.kids x).length := by
  obtain ⟨_, _, _, ad, h, _⟩ := h.parts
  exact ⟨ad, h⟩

namespace Ie
def isNone : E → Bool
  | .bad => true | _ => false
theorem isBad_kids : ∀ x : E, x.isBad = ((kids x).any E.isBad || isNone x)
  | .num _ => rfl
  | .bad => rfl
  | .un s x => by show x.isBad = ((x.isBad || false) || false); simp
  | .bin s x y => by show (x.isBad || y.isBad) = ((x.isBad || (y.isBad || false)) || false); simp
  | .ask x y z => by show (x.isBad || (y.isBad || z.isBad)) = ((x.isBad || (y.isBad || (z.isBad || false))) || false); simp
theorem sgn_bad {x : E} (h : fine x) : isNone x = decide (sgnOf x = sBad) := by
  cases x with
  | num n => rfl
  | bad => rfl
  | un s x =>
    have hs : s ≠ sBad := by
      rintro rfl
      have h' : isUn sBad = true := h
      exact absurd h' (by decide)
    show false = decide (s = sBad)
    rw [decide_eq_false hs]
  | bin s x y =>
    have hs : s ≠ sBad := by
      rintro rfl
      have h' : lvS sBad ≠ 0 := h
      exact absurd h' (by decide)
    show false = decide (s = sBad)
    rw [decide_eq_false hs]
  | ask x y z => rfl
theorem kid_ind {M : E → Prop} (h : ∀ x, (∀ y ∈ kids x, M y) → M x) (x : E) : M x := by
  induction x with
  | num n => exact h _ (fun y hy => by cases hy)
  | bad => exact h _ (fun y hy => by cases hy)
  | un s x hx => exact h _ (fun y hy => by rw [List.mem_singleton.1 hy]; exact hx)
  | bin s x y hx hy =>
    exact h _ (fun z hz => by
      rcases List.mem_cons.1 hz with e | hz
      · rw [e]; exact hx
      · rw [List.mem_singleton.1 hz]; exact hy)
  | ask x y z hx hy hz =>
    exact h _ (fun u hu => by
      rcases List.mem_cons.1 hu with e | hu
      · rw [e]; exact hx
      · rcases List.mem_cons.1 hu with e | hu
        · rw [e]; exact hy
        · rw [List.mem_singleton.1 hu]; exact hz)
end Ie
end Go.Proofs.YtognifnalfjdgaaGreatDoor

/- Reading by levels, plainly; what is proved: the signs of a level, by the document. -/
namespace Go.Proofs.YtognifnalfjdgaaGreatDoor
open Go.RowKit Go.Shelf
namespace Ie
/-- What is read at a level, so much depth left: 0 a choice, 1 to 10 signs between two, 11 less. -/
def rdL (d m : Nat) : Rd := if m = 11 then oper d else if m = 0 then expr d else levels (oper d) (11 - m)
theorem lvs_none {op : Rd} {l : List K} (h : op l = none) : ∀ k, levels op k l = none
  | 0 => h
  | k + 1 => by
    show (match levels op k l with | none => none | some (x, l') => more (levels op k) (10 - k) l'.length x l') = none
    rw [lvs_none h k]
theorem rdL_0 (m : Nat) (l : List K) : rdL 0 m l = none := by
  unfold rdL
  split
  · rfl
  · split
    · rfl
    · exact lvs_none rfl _
theorem oper_nil : ∀ d, oper d [] = none
  | 0 => rfl
  | _ + 1 => rfl
theorem rdL_nil (d m : Nat) : rdL d m [] = none := by
  unfold rdL
  split
  · exact oper_nil d
  · split
    · cases d with
      | zero => rfl
      | succ d =>
        rw [expr_succ]
        unfold exprS
        rw [lvs_none (oper_nil _) 10]
    · exact lvs_none (oper_nil d) _
theorem rdL_11 (d : Nat) : rdL d 11 = oper d := rfl
theorem rdL_z (d : Nat) : rdL d 0 = expr d := rfl
theorem rdL_1 (d : Nat) : rdL d 1 = levels (oper d) 10 := rfl
theorem rdL_lv (d m : Nat) (h1 : 1 ≤ m) (h2 : m ≤ 10) : rdL d m = level (rdL d (m + 1)) m := by
  have hc : m = 1 ∨ m = 2 ∨ m = 3 ∨ m = 4 ∨ m = 5 ∨ m = 6 ∨ m = 7 ∨ m = 8 ∨ m = 9 ∨ m = 10 := by omega
  rcases hc with rfl | rfl | rfl | rfl | rfl | rfl | rfl | rfl | rfl | rfl <;> rfl
/-- The signs of a level. -/
def sgl : Nat → List ByteArray
  | 1 => [sOr] | 2 => [sAnd] | 3 => [sBar] | 4 => [sHat] | 5 => [sAmp] | 6 => [sEq, sNe] | 7 => [sLt, sGt, sLe, sGe] | 8 => [sShl, sShr] | 9 => [sAdd, sSub] | _ => [sMul, sQuo, sRem]
theorem sgl_lv (m : Nat) (h1 : 1 ≤ m) (h2 : m ≤ 10) : ∀ s ∈ sgl m, lvS s = m := by
  have hc : m = 1 ∨ m = 2 ∨ m = 3 ∨ m = 4 ∨ m = 5 ∨ m = 6 ∨ m = 7 ∨ m = 8 ∨ m = 9 ∨ m = 10 := by omega
  rcases hc with rfl | rfl | rfl | rfl | rfl | rfl | rfl | rfl | rfl | rfl <;> simp only [sgl, List.mem_cons, List.not_mem_nil, or_false] <;> intro s hs
  all_goals first
    | (rcases hs with rfl | rfl | rfl | rfl <;> decide)
    | (rcases hs with rfl | rfl | rfl <;> decide)
    | (rcases hs with rfl | rfl <;> decide)
    | (subst hs; decide)
theorem lv_sgl (s : ByteArray) (h : lvS s ≠ 0) : s ∈ sgl (lvS s) := by
  rcases lv_cases h with h | h | (h | h | h | h | h | h) | (h | h) | (h | h) | (h | h | h | h | h | h)
  · rw [h, show lvS sOr = 1 by decide]; simp [sgl]
  · rw [h, show lvS sAnd = 2 by decide]; simp [sgl]
  · rw [h, show lvS sEq = 6 by decide]; simp [sgl]
  · rw [h, show lvS sNe = 6 by decide]; simp [sgl]
  · rw [h, show lvS sLt = 7 by decide]; simp [sgl]
  · rw [h, show lvS sGt = 7 by decide]; simp [sgl]
  · rw [h, show lvS sLe = 7 by decide]; simp [sgl]
  · rw [h, show lvS sGe = 7 by decide]; simp [sgl]
  · rw [h, show lvS sShl = 8 by decide]; simp [sgl]
  · rw [h, show lvS sShr = 8 by decide]; simp [sgl]
  · rw [h, show lvS sQuo = 10 by decide]; simp [sgl]
  · rw [h, show lvS sRem = 10 by decide]; simp [sgl]
  · rw [h, show lvS sBar = 3 by decide]; simp [sgl]
  · rw [h, show lvS sHat = 4 by decide]; simp [sgl]
  · rw [h, show lvS sAmp = 5 by decide]; simp [sgl]
  · rw [h, show lvS sAdd = 9 by decide]; simp [sgl]
  · rw [h, show lvS sSub = 9 by decide]; simp [sgl]
  · rw [h, show lvS sMul = 10 by decide]; simp [sgl]
/-- The last of these signs that stands there; empty: none. -/
def found (l : List K) (i : Nat) (ns : List ByteArray) : ByteArray := ns.foldl (fun acc s => if isAt l i s then s else acc) ⟨#[]⟩
theorem found_snoc (l : List K) (i : Nat) (ns : List ByteArray) (s : ByteArray) : found l i (ns ++ [s]) = if isAt l i s then s else found l i ns := by
  unfold found
  rw [List.foldl_append]; rfl
theorem found_none (l : List K) (i : Nat) : ∀ ns : List ByteArray, (∀ s ∈ ns, isAt l i s = false) → found l i ns = ⟨#[]⟩ := by
  intro ns
  unfold found
  generalize (⟨#[]⟩ : ByteArray) = acc
  induction ns generalizing acc with
  | nil => intro _; rfl
  | cons s r ih =>
    intro h
    rw [List.foldl_cons, h s (List.mem_cons_self ..), if_neg (by simp)]
    exact ih acc fun x hx => h x (List.mem_cons_of_mem _ hx)
theorem found_some (l : List K) (i : Nat) (t : K) (ht : l[i]? = some t) (hk : t.kind = 5) : ∀ (ns : List ByteArray), t.text ∈ ns → found l i ns = t.text := by
  intro ns
  unfold found
  generalize (⟨#[]⟩ : ByteArray) = acc
  have hs : ∀ s, isAt l i s = decide (t.text = s) := fun s => by
    unfold isAt
    rw [ht]
    show (decide (t.kind = 5) && decide (t.text = s)) = _
    rw [decide_eq_true hk, Bool.true_and]
  induction ns generalizing acc with
  | nil => intro h; cases h
  | cons s r ih =>
    intro h
    rw [List.foldl_cons, hs s]
    by_cases hr : t.text ∈ r
    · exact ih _ hr
    · have e : t.text = s := by
        rcases List.mem_cons.1 h with e | e
        · exact e
        · exact absurd e hr
      rw [decide_eq_true e, if_pos rfl]
      have hn := hr
      clear ih h
      rw [← e]
      generalize t.text = u at hs hn
      induction r with
      | nil => rfl
      | cons x r ih2 =>
        rw [List.foldl_cons, hs x, decide_eq_false (fun e => hn (by rw [e]; exact List.mem_cons_self ..)), if_neg (by simp)]
        exact ih2 (fun h => hr (List.mem_cons_of_mem _ h)) (fun h => hn (List.mem_cons_of_mem _ h))
/-- What stands there, by its level. -/
theorem found_lv (l : List K) (i m : Nat) (h1 : 1 ≤ m) (h2 : m ≤ 10) : found l i (sgl m) = match l[i]? with | none => ⟨#[]⟩ | some t => if lvOf t = m then t.text else ⟨#[]⟩ := by
  cases ht : l[i]? with
  | none => exact found_none l i _ fun s _ => by unfold isAt; rw [ht]
  | some t =>
    show _ = if lvOf t = m then t.text else ⟨#[]⟩
    by_cases hk : t.kind = 5
    · have e : lvOf t = lvS t.text := if_pos hk
      rw [e]
      by_cases hl : lvS t.text = m
      · rw [if_pos hl]
        refine found_some l i t ht hk _ ?_
        rw [← hl]
        exact lv_sgl _ (by omega)
      · rw [if_neg hl]
        refine found_none l i _ fun s hs => ?_
        have := sgl_lv m h1 h2 s hs
        unfold isAt
        rw [ht]
        show (decide (t.kind = 5) && decide (t.text = s)) = false
        rw [decide_eq_false (fun e : t.text = s => hl (by rw [e]; exact this)), Bool.and_false]
    · have e : lvOf t = 0 := if_neg hk
      rw [e, if_neg (by omega)]
      refine found_none l i _ fun s hs => ?_
      unfold isAt
      rw [ht]
      show (decide (t.kind = 5) && decide (t.text = s)) = false
      rw [decide_eq_false hk, Bool.false_and]
end Ie

theorem sts_new (w : World) (l : List ByteArray) (v : Value) (C : Array Value) (hv : v = .slice (some ⟨w.heap.size, 0, none⟩) l.length l.length) (hl : l.length ≤ 100) (hC : ∀ (i : Nat) (x : ByteArray), l[i]? = some x → C[i]? = some (Value.string x)) : Sts (w.alloc (.cells C 9)) v l :=
  ⟨some ⟨w.heap.size, 0, none⟩, l.length, hv, Nat.le_refl _, by unfold maxLen; omega, fun i x hx => ⟨w.heap.size, 0, rfl, by rw [Nat.zero_add, World.cell?_alloc_mark]; exact hC i x hx⟩⟩
set_option maxRecDepth 100000 in
set_option maxHeartbeats 8000000 in
theorem signs9_any (m : Nat) (h1 : 1 ≤ m) (h2 : m ≤ 10) (w : World) : Calls Tryz.prog 58 #[.int .i64 m] w fun e W' => ∃ v, e = .returned v ∧ Sts W' v (Ie.sgl m) ∧ Below w.heap.size w W' := by
  have hB : ∀ C, Below w.heap.size w (w.alloc (.cells C 9)) := fun C => (Below.refl _ _).alloc (Nat.le_refl _) _
  have HB := Lib.hid hB
  clear hB
  have hc : m = 1 ∨ m = 2 ∨ m = 3 ∨ m = 4 ∨ m = 5 ∨ m = 6 ∨ m = 7 ∨ m = 8 ∨ m = 9 ∨ m = 10 := by omega
  rcases hc with rfl | rfl | rfl | rfl | rfl | rfl | rfl | rfl | rfl | rfl
  all_goals
    go_enter Tryz.func58, Tryz.ntmps58
    go_wp2_with fail
    go_ret
    refine ⟨_, rfl, sts_new w _ _ _ rfl ?_ ?_, HB.out _⟩
    · decide
    · intro i x hx
      match i, hx with
      | 0, hx => first | (cases hx; rfl) | cases hx
      | 1, hx => first | (cases hx; rfl) | cases hx
      | 2, hx => first | (cases hx; rfl) | cases hx
      | 3, hx => first | (cases hx; rfl) | cases hx
      | n + 4, hx => simp [Ie.sgl] at hx
end Go.Proofs.YtognifnalfjdgaaGreatDoor
