/- What is proved: PptokCovers answers true, in whatever memory. -/
import Derived.Test.YtflmbmcfoigioaaDoorLaw1
namespace Go.Proofs.YtflmbmcfoigioaaDoor
open Go.RowKit Go.Shelf
open Lx (T)

set_option maxRecDepth 100000 in
set_option maxHeartbeats 8000000 in
theorem covers_any (s : ByteArray) (hm : s.size ≤ maxLen) (w : World) (hG : Glob w) : Calls Tryd.prog 5 #[.string s] w (TruePost w) := by
  unfold maxLen at hm
  have HG := Lib.hid hG
  clear hG
  by_cases hs : s.size ≤ 1000
  · have h1 := Lx.tk_length false (Sp.left 0 s.data.toList)
    have h3 := left_short s 1000 hs
    obtain ⟨ts, hts⟩ : ∃ ts, ts = Lx.tk false (Sp.left 0 s.data.toList) := ⟨_, rfl⟩
    rw [← hts] at h1
    have b1 : ts.length ≤ 1000 := by omega
    have HT := Lib.hid hts
    clear h1 h3 hts
    go_enter Tryd.func5, Tryd.ntmps5
    go_wp2_with fail
    refine (awake_any _ HG.out).mono ?_
    rintro e w1 ⟨rfl, hB1⟩
    go_wp2_with fail
    refine (tokens_any 0 s (by omega) _ (HG.out.later hB1)).mono ?_
    rintro e w2 ⟨v, rfl, hv, hB2⟩
    rw [← HT.out] at hv
    replace hB2 := Below.then hB1 hB2
    clear hB1
    obtain ⟨ad, cap, rfl, hc1, hc2, -⟩ := id hv
    unfold maxLen at hc2
    obtain ⟨n, hn⟩ : ∃ n, n = ts.length := ⟨_, rfl⟩
    rw [← hn] at b1 hc1 hv ⊢
    have Hn := Lib.hid hn
    have HV := Lib.hid hv
    have HB2 := Lib.hid hB2
    clear hn hv hB2
    go_wp2_with fail
    go_loopw [5, 6] (fun l i wr => ∃ (k b last : Nat), i = .int .i64 k ∧ l = .int .i64 last ∧ k ≤ n ∧ Lx.Behind s.data.toList b last ∧ ts.drop k = Lx.tk false ((Sp.left 0 s.data.toList).drop b) ∧ Below w2.heap.size w2 wr) (fun _ i _ => n - (intOf i).toNat)
    case atStart => exact ⟨0, 0, 0, rfl, rfl, Nat.zero_le _, .inl ⟨rfl, rfl⟩, by simpa using HT.out, Below.refl _ _⟩
    case round =>
      obtain ⟨k, b, last, rfl, rfl, hk, hbh, hdr, hB⟩ := hrel
      have hsB := hB.size
      have hlast := Lx.behind_le hbh
      rw [size_list] at hlast
      by_cases hlt : k < n
      · have hlt' : k < ts.length := by rw [← Hn.out]; exact hlt
        obtain ⟨x, hx⟩ : ∃ x, ts[k]? = some x := ⟨_, List.getElem?_eq_getElem hlt'⟩
        have hcons : Lx.tk false ((Sp.left 0 s.data.toList).drop b) = x :: ts.drop (k + 1) := by
          rw [← hdr, List.drop_eq_getElem_cons hlt', (List.getElem?_eq_some_iff.1 hx).2]
        obtain ⟨q1, q2, q3, q4, q5, q6, b', q7, q8⟩ := Lx.covers_next hbh hcons
        rw [size_list] at q3
        obtain ⟨g, o, rfl, -, -, -, hg, hcell⟩ := HV.out.cells (by rw [← Hn.out]; omega)
        obtain ⟨d0, d1, d2, d3, d4, d5⟩ := (hcell k x hx).below hB hg
        obtain ⟨fr, hfr⟩ : ∃ fr, fr = x.fr := ⟨_, rfl⟩
        obtain ⟨tt, hto⟩ : ∃ tt, tt = x.to := ⟨_, rfl⟩
        obtain ⟨tx, htx⟩ : ∃ tx : ByteArray, tx = ⟨x.text.toArray⟩ := ⟨_, rfl⟩
        rw [← hfr] at q1 q2 q5 q6 d3
        rw [← hto] at q2 q3 q5 q7 d4
        have htxe : tx.toList ≠ [] := by rw [Lib.toList_data, htx]; exact q4
        rw [← htx] at d1
        obtain ⟨E, hE⟩ : ∃ E, E = s.extract fr tt := ⟨_, rfl⟩
        have hEl : E.data.toList = (s.data.toList.drop fr).take (tt - fr) := by rw [hE, extract_list]
        have hEs : E.size ≤ 1000 := by rw [hE]; simp; omega
        obtain ⟨M, hM⟩ : ∃ M, M = s.extract last fr := ⟨_, rfl⟩
        have hMl : M.data.toList = (s.data.toList.drop last).take (fr - last) := by rw [hM, extract_list]
        have hMs : M.size ≤ 1000 := by rw [hM]; simp; omega
        have hown : (⟨((Sp.left 0 E.data.toList).map Prod.fst).toArray⟩ : ByteArray) = tx := by
          rw [htx, hEl]
          have : (Sp.left 0 ((s.data.toList.drop fr).take (tt - fr))).map Prod.fst = x.text := q5
          rw [this]
        have hno : Lx.tk false (Sp.left 0 M.data.toList) = [] := by rw [hMl]; exact q6
        have HE := Lib.hid hE
        have HM := Lib.hid hM
        have HOwn := Lib.hid hown
        have HNo := Lib.hid hno
        have H7 := Lib.hid q7
        have H8 := Lib.hid q8
        clear hdr hcons q4 q5 q6 q7 q8 hcell hfr hto htx hE hEl hM hMl hown hno hx hbh
        have u1 : ¬ (fr : Int) < last := by omega
        have u2 : ¬ (tt : Int) ≤ fr := by omega
        have u3 : ¬ (s.size : Int) < tt := by omega
        have u4 : (tx.toList == []) = false := by simpa using htxe
        have z1 : (0 : Int) ≤ k := by omega
        have z2 : (k : Int) < n := by omega
        have hbx := fun (W : World) (hW : Below (wr.alloc (.cells #[.int .i64 x.kind, .string tx, .int .i64 0, .int .i64 fr, .int .i64 tt, .bool x.bl] 29)).heap.size (wr.alloc (.cells #[.int .i64 x.kind, .string tx, .int .i64 0, .int .i64 fr, .int .i64 tt, .bool x.bl] 29)) W) =>
          (hW.block wr.heap.size (by simp)).trans (heap_alloc_new wr (.cells #[.int .i64 x.kind, .string tx, .int .i64 0, .int .i64 fr, .int .i64 tt, .bool x.bl] 29))
        have HBX := Lib.hid hbx
        clear hbx
        go_wp2_with fail
        rw [← HE.out]
        refine (refjoin_any E (by omega) _).mono ?_
        rintro e w3 ⟨cv, rfl, hcv, hB3⟩
        have hcl := Sp.left_le 0 E.data.toList
        rw [size_list] at hcl
        obtain ⟨ac, cc, rfl, -⟩ := id hcv
        obtain ⟨le, hle⟩ : ∃ le, le = (Sp.left 0 E.data.toList).length := ⟨_, rfl⟩
        rw [← hle] at hcl
        have HLe := Lib.hid hle
        rw [← hle] at hcv ⊢
        clear hle
        go_wp2_with fail
        refine (reftext_any _ _ _ hcv (by rw [← HLe.out]; omega)).mono ?_
        rintro e w4 ⟨rfl, hB4⟩
        rw [HOwn.out]
        replace hB4 := Below.then hB3 hB4
        have hx4 := HBX.out w4 hB4
        have e3 : w4.cell? ⟨wr.heap.size, 3, none⟩ = some (.int .i64 fr) := by rw [Lib.cell_of_heap hx4]; rfl
        have hB4' : Below w.heap.size w w4 := HB2.out.trans (((hB.alloc hsB _).trans (hB4.mono (by simp; omega))).mono HB2.out.size)
        have HB4' := Lib.hid hB4'
        have HB4 := Lib.hid hB4
        clear hx4 hB3 hB4 hB4' hcv
        go_wp2_with fail
        rw [← HM.out]
        refine (tokens_any 0 M (by omega) _ (HG.out.later HB4'.out)).mono ?_
        rintro e w5 ⟨bv, rfl, hbv, hB5⟩
        rw [HNo.out] at hbv
        obtain ⟨ab, cb, rfl, -⟩ := id hbv
        replace hB5 := Below.then HB4.out hB5
        have hx5 := HBX.out w5 hB5
        have e1 : w5.cell? ⟨wr.heap.size, 1, none⟩ = some (.string tx) := by rw [Lib.cell_of_heap hx5]; rfl
        have e4 : w5.cell? ⟨wr.heap.size, 4, none⟩ = some (.int .i64 tt) := by rw [Lib.cell_of_heap hx5]; rfl
        have hB5' : Below w2.heap.size w2 w5 := (hB.alloc hsB _).trans (hB5.mono (by simp; omega))
        clear hx5 hbv e3 hB5
        rw [show ([] : List T).length = 0 from rfl]
        go_wp2_with fail
        go_roundw
        case rel => exact ⟨k + 1, b', tt, by go_num, rfl, by omega, H7.out, H8.out, hB5'⟩
        case measure => simp [intOf]; omega
      · have hkn : ts.length ≤ k := by rw [← Hn.out]; omega
        rw [List.drop_of_length_le hkn] at hdr
        have hend := Lx.covers_end hbh hdr.symm
        obtain ⟨E, hE⟩ : ∃ E, E = s.extract last s.size := ⟨_, rfl⟩
        have hEl : E.data.toList = s.data.toList.drop last := by rw [hE, Lib.extract_to_end]
        have hEs : E.size ≤ 1000 := by rw [hE]; simp; omega
        rw [← hEl] at hend
        have HE := Lib.hid hE
        have HN := Lib.hid hend
        have hBw : Below w.heap.size w wr := Below.then HB2.out hB
        clear hdr hbh hE hEl hend
        go_wp2_with fail
        rw [← HE.out]
        refine (tokens_any 0 E (by omega) _ (HG.out.later hBw)).mono ?_
        rintro e w5 ⟨bv, rfl, hbv, hB5⟩
        rw [HN.out] at hbv
        obtain ⟨ab, cb, rfl, -⟩ := id hbv
        replace hB5 := Below.then hBw hB5
        rw [show ([] : List T).length = 0 from rfl]
        clear hbv
        go_wp2_with fail
        go_ret
        exact ⟨rfl, hB5⟩
  · go_enter Tryd.func5, Tryd.ntmps5
    go_wp2_with fail
    refine (awake_any _ HG.out).mono ?_
    rintro e w1 ⟨rfl, hB1⟩
    go_wp2_with fail
    go_ret
    exact ⟨rfl, hB1⟩
end Go.Proofs.YtflmbmcfoigioaaDoor
