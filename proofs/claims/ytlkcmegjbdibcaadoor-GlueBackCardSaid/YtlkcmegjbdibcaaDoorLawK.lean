/- What is proved: GlueBack answers true, in whatever memory: given the contracts of awake, Text, String and Unquote (at the trial seat; put the real ones in their place). -/
import Derived.Test.YtlkcmegjbdibcaaDoorY5
import Derived.Test.YtlkcmegjbdibcaaDoorV5
import Derived.Test.YtlkcmegjbdibcaaDoorV3
import Derived.Test.YtlkcmegjbdibcaaDoorW5
namespace Go.Proofs.YtlkcmegjbdibcaaDoor
open Go.RowKit Go.Shelf

set_option maxRecDepth 100000 in
set_option maxHeartbeats 8000000 in
theorem lback_of (HAW : ∀ w, Glob w → Calls Tryd.prog 8 #[] w (TruePost w))
    (HTX : ∀ (l : List K) (v : Value) (w : World), Glob w → Ks w v l → l.length ≤ 1000 → (∀ t ∈ l, t.text.size ≤ 1000) → Calls Tryd.prog 9 #[v] w fun e w' => e = .returned (.string ⟨(Gl.txt false false false l).toArray⟩) ∧ Below w.heap.size w w')
    (HST : ∀ (l : List K) (v : Value) (w : World), Glob w → Ks w v l → l.length ≤ 1000 → (∀ t ∈ l, t.text.size ≤ 1000) → Calls Tryd.prog 10 #[v] w fun e w' => e = .returned (strTok (34 :: (Gl.txt true false false l ++ [34]))) ∧ Below w.heap.size w w')
    (HUN : ∀ (s : ByteArray) (w : World), Glob w → s.size ≤ 10000000 → Calls Tryd.prog 15 #[.string s] w fun e w' => e = .returned (unqOut (Gl.unquote s.data.toList)) ∧ Below w.heap.size w w')
    (s : ByteArray) (w : World) (hG : Glob w) : Calls Tryd.prog 6 #[.string s] w (TruePost w) := by
  have HG := Lib.hid hG
  have HW := Lib.hid HAW
  clear hG HAW
  by_cases h1 : s.size ≤ 500
  · have y1 : ¬ (500 : Int) < s.size := by omega
    obtain ⟨ts, hts⟩ : ∃ ts, ts = Gl.toksOf s.data.toList := ⟨_, rfl⟩
    have HTK := Lib.hid (fun w (hG : Glob w) => tokens_any 0 s (by omega) w hG)
    rw [show Lx.tk false (Sp.left 0 s.data.toList) = ts from hts.symm] at HTK
    have g0 : s.data.toList.length = s.size := size_list s
    have hl : ts.length ≤ 500 := by rw [hts]; have := Gl.toksOf_len s.data.toList; omega
    have hx : ∀ t ∈ ts.map (ofT 0), t.text.size ≤ 1000 := fun t ht => by
      obtain ⟨x, hx, rfl⟩ := List.mem_map.1 ht
      have := Gl.toksOf_short s.data.toList x (hts ▸ hx)
      show x.text.length ≤ _
      omega
    have hq : (Gl.txt true false false (ts.map (ofT 0))).length ≤ 1000000 := by
      have := Gl.toksOf_txt s.data.toList true
      rw [← hts] at this
      refine Nat.le_trans this ?_
      exact Nat.le_trans (Nat.mul_le_mul (show s.data.toList.length ≤ 500 by omega) (show 2 * s.data.toList.length + 1 ≤ 1001 by omega)) (by decide)
    have hfine : (∀ t ∈ ts, t.kind ≠ 6) → ∀ t ∈ ts.map (ofT 0), Gl.Fine t := by rw [hts]; exact Gl.fine_of _ 0
    have T1 := Lib.hid (HTX (ts.map (ofT 0)))
    have S1 := Lib.hid (HST (ts.map (ofT 0)))
    have U1 := Lib.hid HUN
    have HL := Lib.hid hl
    have HX := Lib.hid hx
    have HQ := Lib.hid hq
    have HF := Lib.hid hfine
    obtain ⟨n, hn⟩ : ∃ n, n = ts.length := ⟨_, rfl⟩
    have Hn := Lib.hid hn
    clear h1 hts g0 hl hx hq hfine HTX HST HUN hn
    go_enter Tryd.func6, Tryd.ntmps6
    go_wp2_with fail
    refine (HW.out _ HG.out).mono ?_
    rintro e w0 ⟨rfl, hB0⟩
    go_wp2_with fail
    refine (HTK.out _ (HG.out.later hB0)).mono ?_
    rintro e w1 ⟨tv, rfl, htv, hB1⟩
    have hk := htv.ks
    replace hB1 := Below.then hB0 hB1
    obtain ⟨va, vc, rfl, hv1, hv2, -⟩ := id hk
    rw [List.length_map, ← Hn.out] at hk ⊢
    have HB1 := Lib.hid hB1
    have HK := Lib.hid hk
    clear htv hB0 hB1 hk hv1 hv2
    go_wp2_with fail
    go_loopw [5] (fun i wr => ∃ k : Nat, i = .int .i64 k ∧ k ≤ n ∧ (∀ t ∈ ts.take k, t.kind ≠ 6) ∧ wr = w1) (fun i _ => n - (intOf i).toNat)
    case atStart => exact ⟨0, rfl, Nat.zero_le _, by simp, rfl⟩
    case round =>
      obtain ⟨k, rfl, hk, hno, rfl⟩ := hrel
      have HNO := Lib.hid hno
      clear hno
      have hln : n ≤ 500 := by rw [Hn.out]; exact HL.out
      by_cases hlt : k < n
      · obtain ⟨t, htk⟩ : ∃ t, ts[k]? = some t := ⟨_, List.getElem?_eq_getElem (by rw [← Hn.out]; exact hlt)⟩
        obtain ⟨g, o, hva, -, hc1, hc2, hg, hcs⟩ := HK.out.cells (by rw [List.length_map, ← Hn.out]; omega)
        subst hva
        have hat := hcs k (ofT 0 t) (by rw [List.getElem?_map, htk]; rfl)
        have d0 : wr.cell? ⟨g, o + k * 6, none⟩ = some (.int .i64 (t.kind : Int)) := hat.1
        have HT := Lib.hid htk
        have y2 : (0 : Int) ≤ k := by omega
        have y3 : (k : Int) < n := by omega
        clear hcs hat htk hc1 hc2
        by_cases h6 : t.kind = 6
        · have z1 : ((t.kind : Int) == 6) = true := by rw [h6]; rfl
          clear h6
          go_wp2_with fail
          go_ret
          exact ⟨rfl, HB1.out⟩
        · have z1 : ((t.kind : Int) == 6) = false := by rw [beq_eq_false_iff_ne]; omega
          have hno' : ∀ x ∈ ts.take (k + 1), x.kind ≠ 6 := by
            rw [List.take_add_one, HT.out]
            intro x hx
            rcases List.mem_append.1 hx with hx | hx
            · exact HNO.out x hx
            · simp at hx; rw [hx]; exact h6
          have HNX := Lib.hid hno'
          clear hno' h6
          go_wp2_with fail
          go_roundw
          case rel => exact ⟨k + 1, by go_num, by omega, HNX.out, trivial⟩
          case measure => simp [intOf]; omega
      · have y3 : ¬ (k : Int) < n := by omega
        have hf := HF.out (by have := HNO.out; rwa [List.take_of_length_le (by rw [← Hn.out]; omega)] at this)
        obtain ⟨hu, x, ho, hxk⟩ := Gl.back_of hf
        obtain ⟨Q, hQ⟩ : ∃ Q : ByteArray, Q = ⟨(34 :: (Gl.txt true false false (ts.map (ofT 0)) ++ [34])).toArray⟩ := ⟨_, rfl⟩
        obtain ⟨A, hA⟩ : ∃ A : ByteArray, A = ⟨(Gl.txt false false false (ts.map (ofT 0))).toArray⟩ := ⟨_, rfl⟩
        have hQd : Q.data.toList = 34 :: (Gl.txt true false false (ts.map (ofT 0)) ++ [34]) := by rw [hQ]
        have hQs : Q.size ≤ 2000000 := by
          have := congrArg List.length hQd
          have h2 := HQ.out
          rw [size_list] at this
          simp at this
          omega
        have u1 := U1.out Q
        have o1 := fun w hG => one_any Q (by omega) w hG
        rw [hQd, hu] at u1
        rw [hQd, ho] at o1
        have t1 := T1.out
        have s1 := S1.out
        unfold strTok at s1
        rw [← hQ] at s1
        rw [← hA] at t1
        unfold unqOut at u1
        unfold OnePost tokAgg at o1
        dsimp only [Option.getD_some, Option.isSome_some] at u1 o1
        rw [show (ByteArray.mk (Gl.txt false false false (ts.map (ofT 0))).toArray) = A from hA.symm] at u1
        rw [hxk] at o1
        have U2 := Lib.hid u1
        have O2 := Lib.hid o1
        have T2 := Lib.hid t1
        have S2 := Lib.hid s1
        have HQS := Lib.hid hQs
        have HLM := Lib.hid (show (ts.map (ofT 0)).length ≤ 1000 by rw [List.length_map]; have := HL.out; omega)
        clear u1 o1 t1 s1 hQs hQd hA hQ hu ho hxk hf hlt
        go_wp2_with fail
        refine (S2.out _ _ (HG.out.later HB1.out) HK.out HLM.out HX.out).mono ?_
        rintro e w2 ⟨rfl, hB2⟩
        have hK2 := HK.out.below hB2
        replace hB2 := Below.then HB1.out hB2
        have hB3 := hB2.alloc hB2.size (.cells #[.int .i64 4, .string Q, .int .i64 0, .int .i64 0, .int .i64 0, .bool false] 26)
        have k1 := heap_alloc_new w2 (.cells #[.int .i64 4, .string Q, .int .i64 0, .int .i64 0, .int .i64 0, .bool false] 26)
        have hA1 : Below w2.heap.size w2 (w2.alloc (.cells #[.int .i64 4, .string Q, .int .i64 0, .int .i64 0, .int .i64 0, .bool false] 26)) := (Below.refl _ _).alloc (Nat.le_refl _) _
        have hK3 := hK2.below hA1
        have K1 := Lib.hid k1
        have HK3 := Lib.hid hK3
        obtain ⟨x0, x1, x2, x3, x4, x5⟩ := box6_cells k1
        clear hK2 hA1 hK3 hB2 k1
        go_wp2_with fail
        refine (U2.out _ (HG.out.later hB3) (by have := HQS.out; omega)).mono ?_
        rintro e w3 ⟨rfl, hB4⟩
        have k1 := (hB4.block _ (lt_of_block K1.out)).trans K1.out
        have hK4 := HK3.out.below hB4
        replace hB4 := Below.then hB3 hB4
        have HK4 := Lib.hid hK4
        have K2 := Lib.hid k1
        clear x0 x1 x2 x3 x4 x5 hB3 hK4 k1
        go_wp2_with fail
        refine (T2.out _ _ (HG.out.later hB4) HK4.out HLM.out HX.out).mono ?_
        rintro e w4 ⟨rfl, hB5⟩
        have k1 := (hB5.block _ (lt_of_block K2.out)).trans K2.out
        replace hB5 := Below.then hB4 hB5
        obtain ⟨x0, x1, x2, x3, x4, x5⟩ := box6_cells k1
        clear hB4 k1
        go_wp2_with fail
        refine (O2.out _ (HG.out.later hB5)).mono ?_
        rintro e w5 ⟨rfl, hB6⟩
        replace hB6 := Below.then hB5 hB6
        have k2 := heap_alloc_new w5 (.cells #[.int .i64 (4 : Nat), .string ⟨x.text.toArray⟩, .int .i64 0, .int .i64 x.fr, .int .i64 x.to, .bool x.bl] 26)
        have hB7 := hB6.alloc hB6.size (.cells #[.int .i64 (4 : Nat), .string ⟨x.text.toArray⟩, .int .i64 0, .int .i64 x.fr, .int .i64 x.to, .bool x.bl] 26)
        clear x0 x1 x2 x3 x4 x5 hB5
        obtain ⟨x0, x1, x2, x3, x4, x5⟩ := box6_cells k2
        clear k2
        go_wp2_with fail
        go_ret
        exact ⟨by simp, hB7⟩
  · have y1 : (500 : Int) < s.size := by omega
    go_enter Tryd.func6, Tryd.ntmps6
    go_wp2_with fail
    refine (HW.out _ HG.out).mono ?_
    rintro e w0 ⟨rfl, hB0⟩
    go_wp2_with fail
    go_ret
    exact ⟨rfl, hB0⟩
end Go.Proofs.YtlkcmegjbdibcaaDoor
