/- What is proved: what the document's own Tokens tells of any text. -/
import Derived.Test.YtlkcmegjbdibcaaDoorR4
namespace Go.Proofs.YtlkcmegjbdibcaaDoor
open Go.RowKit Go.Shelf
open Lx (T)

set_option maxRecDepth 100000 in
set_option maxHeartbeats 8000000 in
theorem rtokens_any (f : Int) (s : ByteArray) (hs : s.size ≤ 1000000000) (w : World) :
    Calls Tryd.prog 34 #[.int .i64 f, .string s] w (ToksPost w f (Lx.tk false (Sp.left 0 s.data.toList))) := by
  obtain ⟨i0, hi, hz0, hz1, hz2⟩ := info_parts infoTok
  have hll := Sp.left_le 0 s.data.toList
  rw [size_list] at hll
  obtain ⟨l, hl⟩ : ∃ l, l = Sp.left 0 s.data.toList := ⟨_, rfl⟩
  rw [← hl] at hll ⊢
  have HL := Lib.hid hl
  have HP : Hid (∀ x ∈ l, x.2 < s.size) := Lib.hid (fun x hx => by rw [hl] at hx; have := Sp.left_lt hx; rw [size_list] at this; omega)
  clear hl
  go_enter Tryd.func34, Tryd.ntmps34
  go_wp2_with fail
  refine (refjoin_any s (by omega) _).mono ?_
  rintro e w1 ⟨cv, rfl, hcv, hB1⟩
  rw [← HL.out] at hcv
  obtain ⟨ad, cap, rfl, hc1, hc2, -⟩ := id hcv
  unfold maxLen at hc2
  go_wp2_with fail
  refine (reftext_any _ l _ hcv (by omega)).mono ?_
  rintro e w2 ⟨rfl, hB2⟩
  replace hcv := hcv.below hB2
  replace hB2 : Below w.heap.size w w2 := Below.trans hB1 (hB2.mono hB1.size)
  obtain ⟨S, hS⟩ : ∃ S : ByteArray, S = ⟨(l.map Prod.fst).toArray⟩ := ⟨_, rfl⟩
  have hSl : S.data.toList = Lx.bytes l := by rw [hS]; rfl
  have hSz : S.size = l.length := by rw [hS, mk_size]; simp
  rw [← hS]
  rw [← hSz] at hll hc1 hcv ⊢
  have Hn := Lib.hid hSz
  have HS := Lib.hid hSl
  have HC := Lib.hid hcv
  have HB2 := Lib.hid hB2
  clear hS hSl hSz hcv hB1 hB2
  go_wp2_with fail
  go_loopw [7, 8, 9] (fun o a p wr => ∃ (k : Nat) (P : Bool) (acc : List T), a = .int .i64 k ∧ p = .bool P ∧ Sofar l k P acc ∧ wr.ownsRow w2.heap.size 26 6 o acc.length (tokCells f acc) ∧ Below w2.heap.size w2 wr) (fun _ a _ _ => S.size - (intOf a).toNat)
  case atStart => exact ⟨0, false, [], rfl, rfl, sofar_start _, World.ownsRow_nil _ _ _ _, Below.refl _ _⟩
  case round =>
    obtain ⟨k, P, acc, rfl, rfl, hsf, hrow, hB⟩ := hrel
    have hkl := hsf.1
    have hal := hsf.2.1
    rw [← Hn.out] at hkl
    by_cases hlt : k < S.size
    · have hlt' : k < l.length := by rw [← Hn.out]; exact hlt
      obtain ⟨B, hBk⟩ : ∃ B, B = Lx.blankLen (Lx.bytes (l.drop k)) := ⟨_, rfl⟩
      have HBk := Lib.hid hBk
      by_cases hb : 0 < B
      · obtain ⟨h1, h2⟩ := sofar_blank hsf (by rw [← hBk]; exact hb)
        rw [← hBk, ← Hn.out] at h1
        rw [← hBk] at h2
        clear hBk
        go_wp2_with fail
        refine (rblank_any S k (by omega) hlt _).mono ?_
        rintro e w' ⟨rfl, rfl⟩
        rw [HS.out, ← Lx.bytes_drop, ← HBk.out]
        go_wp2_with fail
        go_roundw
        case rel => exact ⟨k + B, true, acc, by go_num, rfl, h2, hrow, hB⟩
        case measure => simp [intOf]; omega
      · have hb0 : B = 0 := by omega
        obtain ⟨h1, h2, h3⟩ := sofar_tok hsf hlt' (by rw [← hBk]; exact hb0)
        obtain ⟨q, hq⟩ : ∃ q, q = Lx.first (Lx.bytes (l.drop k)) := ⟨_, rfl⟩
        obtain ⟨t, ht⟩ : ∃ t, t = Lx.tokAt P (l.drop k) := ⟨_, rfl⟩
        have htk : t.kind = q.1 := by rw [ht, hq]; rfl
        have htt : t.text = (Lx.bytes (l.drop k)).take q.2 := by rw [ht, hq]; rfl
        have htb : t.bl = P := by rw [ht]; rfl
        have htf : t.fr = (l.getD k (0, 0)).2 := by rw [ht]; unfold Lx.tokAt; simp [List.getD_eq_getElem?_getD]
        have hto : t.to = (l.getD (k + (q.2 - 1)) (0, 0)).2 + 1 := by rw [ht, hq]; unfold Lx.tokAt; simp [List.getD_eq_getElem?_getD]
        rw [← hq] at h1 h2 h3
        rw [← ht] at h3
        rw [← Hn.out] at h2
        obtain ⟨kd, m⟩ := q
        dsimp only at h1 h2 h3 htk htt hto
        have hxk : l[k]? = some (l.getD k (0, 0)) := by rw [List.getD_eq_getElem?_getD, List.getElem?_eq_getElem hlt']; rfl
        have hjl : k + (m - 1) < l.length := by rw [← Hn.out]; omega
        have hxj : l[k + (m - 1)]? = some (l.getD (k + (m - 1)) (0, 0)) := by rw [List.getD_eq_getElem?_getD, List.getElem?_eq_getElem hjl]; rfl
        have hpj := HP.out _ (List.mem_of_getElem? hxj)
        obtain ⟨g, o, had, -, -, -, hg, hcell⟩ := HC.out.cells (by omega)
        have c1 := (hcell k _ hxk).2
        have c2 := (hcell _ _ hxj).2
        rw [← htf] at c1
        obtain ⟨tl, htl⟩ : ∃ tl, tl = (l.getD (k + (m - 1)) (0, 0)).2 := ⟨_, rfl⟩
        rw [← htl] at c2 hto hpj
        subst had
        have HQ := Lib.hid hq
        have H3 := Lib.hid h3
        have HTk := Lib.hid htk
        have HTt := Lib.hid htt
        have HTo := Lib.hid hto
        have HTb := Lib.hid htb
        obtain ⟨j, hj⟩ : ∃ j, j = k + (m - 1) := ⟨_, rfl⟩
        rw [← hj] at c2
        have Hj := Lib.hid hj
        obtain ⟨fr, hfr⟩ : ∃ fr, fr = t.fr := ⟨_, rfl⟩
        rw [← hfr] at c1
        have HFr := Lib.hid hfr
        clear hq ht htk htt htb htf hto h3 hxk hjl hxj hcell htl hBk hfr hsf hj
        go_wp2_with fail
        refine (rblank_any S k (by omega) hlt _).mono ?_
        rintro e w' ⟨rfl, rfl⟩
        rw [HS.out, ← Lx.bytes_drop, ← HBk.out]
        go_wp2_with fail
        refine (next_any S k (by omega) hlt _).mono ?_
        rintro e w3 ⟨rfl, hB3⟩
        rw [HS.out, ← Lx.bytes_drop, ← HQ.out]
        replace hrow := row_below hrow hB3
        replace hB3 : Below w2.heap.size w2 w3 := hB.trans (hB3.mono hB.size)
        have d1 : w3.cell? ⟨g, o + k * 2 + 1, none⟩ = some (.int .i64 fr) := (hB3.cell (p := ⟨g, o + k * 2 + 1, none⟩) hg).trans c1
        have d2 : w3.cell? ⟨g, o + j * 2 + 1, none⟩ = some (.int .i64 tl) := (hB3.cell (p := ⟨g, o + j * 2 + 1, none⟩) hg).trans c2
        clear hB c1 c2
        go_wp2_with fail
        have ag : u7.ownBlock ≠ some g := fun e => by have := (hrow.lt g e).1; omega
        have hw3 := hB3.size
        have z0 : (0 : Int) ≤ k := by omega
        have z1 : (k : Int) < S.size := by omega
        have z2 : (k : Int) ≤ (k : Int) + m := by omega
        have z3 : (k : Int) + m ≤ S.size := by omega
        have z4 : (0 : Int) ≤ (j : Int) := by omega
        have z5 : (j : Int) < S.size := by have := Hj.out; omega
        have z6 : (0 : Int) ≤ (k : Int) + m := by omega
        have hbb : (acc.length + 1) * 56 ≤ 140737488355328 := by omega
        have hmx : acc.length + 1 ≤ maxLen := by unfold maxLen; omega
        have e4 : ((k : Int) + m).toNat = k + m := by omega
        have e1 : IntKind.i64.wrap ((k : Int) + m) = (k : Int) + m := IntWalk.i64_in _ (by omega)
        have e2 : IntKind.i64.wrap ((k : Int) + m - 1) = (j : Int) := by rw [IntWalk.i64_in _ (by omega)]; have := Hj.out; omega
        have e3 : IntKind.i64.wrap ((tl : Int) + 1) = (tl : Int) + 1 := IntWalk.i64_in _ (by omega)
        go_region_held3 (fun w' => w'.cell? ⟨g, o + k * 2 + 1, none⟩ = some (.int .i64 fr) ∧ w'.cell? ⟨g, o + j * 2 + 1, none⟩ = some (.int .i64 tl))
          (first
            | go_keep
            | (go_split_ands
               refine ⟨?_, ?_⟩
               · (rw [hgrow.cell_far _ (by simp; omega) (Ne.symm ag)]; assumption)
               · (rw [hgrow.cell_far _ (by simp; omega) (Ne.symm ag)]; assumption)))
          ((refine step_append_lies _ (by rfl) _ _ _ (by rfl) w2.heap.size 26 i0 _ 6 56 Tryd.underlying22 hi hz0 hz1 hz2 rfl (by omega) u7 acc.length (tokCells f acc) (by rfl) ((hrow.alloc _).drew)
              ⟨w3.heap.size, 0, none⟩ 1 1 [.int .i64 kd, .string (S.extract k (k + m)), .int .i64 f, .int .i64 fr, .int .i64 ((tl : Int) + 1), .bool P] (by rfl) (by rfl) (World.news_of_block (cs := #[.int .i64 kd, .string (S.extract k (k + m)), .int .i64 f, .int .i64 fr, .int .i64 ((tl : Int) + 1), .bool P]) (t := 26) (fr := (0, 0)) (heap_alloc_new w3 _)) (by simp [Value.oneCell'])
              (by omega) hmx hbb (by simp; omega) (w3.heap.size + 1) (by simp) ?_; intro gg cap' w4 hown1 hgrow hat hlt4))
        clear e1 e2 e3 e4
        go_wp2_with fail
        go_roundw
        case rel =>
          refine ⟨k + m, false, acc ++ [t], by go_num, rfl, H3.out, ?_, ?_⟩
          · have hx : S.extract k (k + m) = ⟨t.text.toArray⟩ := by rw [extract_list, HS.out, ← Lx.bytes_drop, HTt.out, show k + m - k = m by omega]
            have hc : tokCells f (acc ++ [t]) = tokCells f acc ++ [.int .i64 kd, .string (S.extract k (k + m)), .int .i64 f, .int .i64 fr, .int .i64 ((tl : Int) + 1), .bool P] := by
              rw [tokCells_append, hx, HFr.out, show ((tl : Int) + 1) = ((t.to : Nat) : Int) by rw [HTo.out]; rfl, ← HTb.out, ← HTk.out]
              simp [tokCells, cellsOne]
            rw [hc, List.length_append]
            exact hown1
          · exact ((hB3.alloc hw3 _).drew).grown hgrow (by simp; omega) (fun i ei => (hrow.lt i ei).1)
        case measure => simp [intOf]; omega
    · have he := sofar_end hsf (by rw [← Hn.out]; omega)
      go_wp2_with fail
      go_ret
      rw [← he]
      exact ⟨_, rfl, Toks.of_row hrow, HB2.out.trans (hB.mono HB2.out.size)⟩
end Go.Proofs.YtlkcmegjbdibcaaDoor
