/- The document's own Tokens, what tpl8 had left out. (and what stands with it) -/
import Derived.Test.YtdopmmnabhcigaaGreatDoorGk
import Derived.Test.YtdopmmnabhcigaaGreatDoorGe

/- The document's own Tokens, what tpl8 had left out. -/
namespace Go.Proofs.YtdopmmnabhcigaaGreatDoor
open Go.RowKit Go.Shelf
open Lx (T)
set_option maxHeartbeats 4000000 in
set_option maxRecDepth 100000 in
theorem next_any (s : ByteArray) (i : Nat) (hs : s.size ≤ 4000000000) (hi : i < s.size) (w : World) :
    Calls Tryz.prog 40 #[.string s, .int .i64 i] w (Pair w (Lx.first (s.data.toList.drop i))) := by
  have hd := drop_at s i hi
  have hf := Lx.first_cons s[i] (s.data.toList.drop (i + 1))
  have hw := rword_cons s[i] (s.data.toList.drop (i + 1))
  rw [← hd] at hf hw
  have hwp : Lx.letter s[i] = true → 0 < Lx.wordLen (s[i] :: s.data.toList.drop (i + 1)) := Lx.wordLen_pos s[i] (s.data.toList.drop (i + 1))
  have b1 := (Lx.closedLen_le 34 (s.data.toList.drop i)).1
  have b2 := Lx.closedLen_le 39 (s.data.toList.drop i)
  have b3 := Lx.signLen_le (s.data.toList.drop i)
  have b4 := Lx.numLen_le (s.data.toList.drop i)
  have b5 := Lx.wordLen_le (s.data.toList.drop i)
  rw [← hd] at hwp
  rw [List.length_drop, size_list] at b1 b2 b3 b4 b5
  have hr34 : rq 34 (s.data.toList.drop i) = Lx.closedLen 34 (s.data.toList.drop i) := by unfold rq; rw [if_neg (fun h => absurd h.1 (by decide))]
  have hr39 : rq 39 (s.data.toList.drop i) = if Lx.closedLen 39 (s.data.toList.drop i) = 2 then 0 else Lx.closedLen 39 (s.data.toList.drop i) := by unfold rq; simp
  obtain ⟨P, hP⟩ : ∃ P, P = Lx.first (s.data.toList.drop i) := ⟨_, rfl⟩
  obtain ⟨A, hA⟩ : ∃ A, A = Lx.closedLen 34 (s.data.toList.drop i) := ⟨_, rfl⟩
  obtain ⟨B, hB⟩ : ∃ B, B = Lx.closedLen 39 (s.data.toList.drop i) := ⟨_, rfl⟩
  obtain ⟨C, hC⟩ : ∃ C, C = Lx.signLen (s.data.toList.drop i) := ⟨_, rfl⟩
  obtain ⟨N, hN⟩ : ∃ N, N = Lx.numLen (s.data.toList.drop i) := ⟨_, rfl⟩
  obtain ⟨V, hV⟩ : ∃ V, V = Lx.wordLen (s.data.toList.drop i) := ⟨_, rfl⟩
  rw [← hP] at hf ⊢
  rw [← hA, ← hB, ← hC, ← hN, ← hV] at hf
  rw [← hA] at b1 hr34
  rw [← hB] at b2 hr39
  rw [← hC] at b3
  rw [← hN] at b4
  rw [← hV] at b5 hwp hw
  have HC := Lib.hid hC
  have HN := Lib.hid hN
  have H34 := Lib.hid hr34
  have H39 := Lib.hid hr39
  clear hP hA hB hC hN hV hr34 hr39 hd
  by_cases h10 : s[i] = 10
  · rw [if_pos h10] at hf
    have t1 : ((s[i].toNat : Int) == 10) = true := u8_eq h10
    subst hf
    clear h10 hwp hw b2
    go_enter Tryz.func40, Tryz.ntmps40
    go_wp2_with fail
    go_ret2
    exact ⟨rfl, Below.refl _ _⟩
  · rw [if_neg h10] at hf
    have t1 : ((s[i].toNat : Int) == 10) = false := u8_ne h10
    clear h10
    cases hL : Lx.letter s[i] with
    | true =>
      rw [if_pos hL] at hf hw
      have hv := hwp hL
      subst hf
      have HW := Lib.hid hw
      clear hwp hw hL b2
      go_enter Tryz.func40, Tryz.ntmps40
      go_wp2_with fail
      refine (word_any s i hs hi _).mono ?_
      rintro e w' ⟨rfl, rfl⟩
      rw [HW.out]
      go_wp2_with fail
      go_ret2
      exact ⟨rfl, Below.refl _ _⟩
    | false =>
      rw [if_neg (by rw [hL]; simp)] at hf hw
      have HW := Lib.hid hw
      clear hwp hw hL
      by_cases hn0 : 0 < N
      · rw [if_pos hn0] at hf
        subst hf
        clear b2
        go_enter Tryz.func40, Tryz.ntmps40
        go_wp2_with fail
        refine (word_any s i hs hi _).mono ?_
        rintro e w' ⟨rfl, rfl⟩
        rw [HW.out]
        go_wp2_with fail
        refine (rnumber_any s i hs hi _).mono ?_
        rintro e w' ⟨rfl, rfl⟩
        rw [← HN.out]
        go_wp2_with fail
        go_ret2
        exact ⟨rfl, Below.refl _ _⟩
      · rw [if_neg hn0] at hf
        obtain rfl : N = 0 := by omega
        by_cases ha0 : 0 < A
        · rw [if_pos ha0] at hf
          subst hf
          clear b2
          go_enter Tryz.func40, Tryz.ntmps40
          go_wp2_with fail
          refine (word_any s i hs hi _).mono ?_
          rintro e w' ⟨rfl, rfl⟩
          rw [HW.out]
          go_wp2_with fail
          refine (rnumber_any s i hs hi _).mono ?_
          rintro e w' ⟨rfl, rfl⟩
          rw [← HN.out]
          go_wp2_with fail
          refine (quoted_any s i hs hi 34 (by decide) (by decide) _).mono ?_
          rintro e w' ⟨rfl, rfl⟩
          rw [H34.out]
          go_wp2_with fail
          go_ret2
          exact ⟨rfl, Below.refl _ _⟩
        · rw [if_neg ha0] at hf
          obtain rfl : A = 0 := by omega
          by_cases hb2 : 2 < B
          · rw [if_pos hb2] at hf
            subst hf
            have h39 : rq 39 (s.data.toList.drop i) = B := by rw [H39.out, if_neg (by omega)]
            have H39' := Lib.hid h39
            clear b2 h39
            go_enter Tryz.func40, Tryz.ntmps40
            go_wp2_with fail
            refine (word_any s i hs hi _).mono ?_
            rintro e w' ⟨rfl, rfl⟩
            rw [HW.out]
            go_wp2_with fail
            refine (rnumber_any s i hs hi _).mono ?_
            rintro e w' ⟨rfl, rfl⟩
            rw [← HN.out]
            go_wp2_with fail
            refine (quoted_any s i hs hi 34 (by decide) (by decide) _).mono ?_
            rintro e w' ⟨rfl, rfl⟩
            rw [H34.out]
            go_wp2_with fail
            refine (quoted_any s i hs hi 39 (by decide) (by decide) _).mono ?_
            rintro e w' ⟨rfl, rfl⟩
            rw [H39'.out]
            go_wp2_with fail
            go_ret2
            exact ⟨rfl, Below.refl _ _⟩
          · rw [if_neg hb2] at hf
            have h39 : rq 39 (s.data.toList.drop i) = 0 := by
              rw [H39.out]
              have := b2.2
              split
              · rfl
              · omega
            have H39' := Lib.hid h39
            clear b2 h39
            by_cases hc0 : 0 < C
            · rw [if_pos hc0] at hf
              subst hf
              go_enter Tryz.func40, Tryz.ntmps40
              go_wp2_with fail
              refine (word_any s i hs hi _).mono ?_
              rintro e w' ⟨rfl, rfl⟩
              rw [HW.out]
              go_wp2_with fail
              refine (rnumber_any s i hs hi _).mono ?_
              rintro e w' ⟨rfl, rfl⟩
              rw [← HN.out]
              go_wp2_with fail
              refine (quoted_any s i hs hi 34 (by decide) (by decide) _).mono ?_
              rintro e w' ⟨rfl, rfl⟩
              rw [H34.out]
              go_wp2_with fail
              refine (quoted_any s i hs hi 39 (by decide) (by decide) _).mono ?_
              rintro e w' ⟨rfl, rfl⟩
              rw [H39'.out]
              go_wp2_with fail
              refine (rsign_any s i hs hi _).mono ?_
              rintro e w' ⟨rfl, hBe⟩
              rw [← HC.out]
              go_wp2_with fail
              go_ret2
              exact ⟨rfl, hBe⟩
            · rw [if_neg hc0] at hf
              obtain rfl : C = 0 := by omega
              subst hf
              go_enter Tryz.func40, Tryz.ntmps40
              go_wp2_with fail
              refine (word_any s i hs hi _).mono ?_
              rintro e w' ⟨rfl, rfl⟩
              rw [HW.out]
              go_wp2_with fail
              refine (rnumber_any s i hs hi _).mono ?_
              rintro e w' ⟨rfl, rfl⟩
              rw [← HN.out]
              go_wp2_with fail
              refine (quoted_any s i hs hi 34 (by decide) (by decide) _).mono ?_
              rintro e w' ⟨rfl, rfl⟩
              rw [H34.out]
              go_wp2_with fail
              refine (quoted_any s i hs hi 39 (by decide) (by decide) _).mono ?_
              rintro e w' ⟨rfl, rfl⟩
              rw [H39'.out]
              go_wp2_with fail
              refine (rsign_any s i hs hi _).mono ?_
              rintro e w' ⟨rfl, hBe⟩
              rw [← HC.out]
              go_wp2_with fail
              go_ret2
              exact ⟨rfl, hBe⟩
end Go.Proofs.YtdopmmnabhcigaaGreatDoor

/- The document's own Tokens, what tpl8 had left out. -/
namespace Go.Proofs.YtdopmmnabhcigaaGreatDoor
open Go.RowKit Go.Shelf
open Lx (T)
/-- A row that lies at or above one place lies at or above a lower one. -/
theorem row_mono {W : World} {base base2 e sz n : Nat} {v : Value} {cs : List Value} (h : W.ownsRow base e sz v n cs) (hb : base2 ≤ base) : W.ownsRow base2 e sz v n cs := by
  refine ⟨h.1, ?_⟩
  rcases h.2 with h' | ⟨g, cap, cur, h', h1, h2⟩
  · exact .inl h'
  · exact .inr ⟨g, cap, cur, h', Nat.le_trans hb h1, h2⟩
set_option maxRecDepth 100000 in
set_option maxHeartbeats 8000000 in
theorem rtokens_row (f : Int) (s : ByteArray) (hs : s.size ≤ 1000000000) (w : World) :
    Calls Tryz.prog 28 #[.int .i64 f, .string s] w (fun e w' => ∃ v, e = .returned v ∧ w'.ownsRow w.heap.size 50 6 v (Lx.tk false (Sp.left 0 s.data.toList)).length (tokCells f (Lx.tk false (Sp.left 0 s.data.toList))) ∧ Below w.heap.size w w') := by
  obtain ⟨i0, hi, hz0, hz1, hz2⟩ := info_parts infoTok
  have hll := Sp.left_le 0 s.data.toList
  rw [size_list] at hll
  obtain ⟨l, hl⟩ : ∃ l, l = Sp.left 0 s.data.toList := ⟨_, rfl⟩
  rw [← hl] at hll ⊢
  have HL := Lib.hid hl
  have HP : Hid (∀ x ∈ l, x.2 < s.size) := Lib.hid (fun x hx => by rw [hl] at hx; have := Sp.left_lt hx; rw [size_list] at this; omega)
  clear hl
  go_enter Tryz.func28, Tryz.ntmps28
  go_wp2_with fail
  refine (refjoin_any s (by omega) _).mono ?_
  rintro e w1 ⟨cv, rfl, hcv, hB1⟩
  rw [← HL.out] at hcv
  obtain ⟨ad, cap, rfl, hc1, hc2, -⟩ := id hcv
  unfold maxLen at hc2
  go_wp2_with fail
  refine (reftext_any _ l _ hcv (by omega)).mono ?_
  rintro e w2 ⟨rfl, hB2⟩
  replace hcv := hcv.below hB2
  replace hB2 : Below w.heap.size w w2 := Below.trans hB1 (hB2.mono hB1.size)
  obtain ⟨S, hS⟩ : ∃ S : ByteArray, S = ⟨(l.map Prod.fst).toArray⟩ := ⟨_, rfl⟩
  have hSl : S.data.toList = Lx.bytes l := by rw [hS]; rfl
  have hSz : S.size = l.length := by rw [hS, mk_size]; simp
  rw [← hS]
  rw [← hSz] at hll hc1 hcv ⊢
  have Hn := Lib.hid hSz
  have HS := Lib.hid hSl
  have HC := Lib.hid hcv
  have HB2 := Lib.hid hB2
  clear hS hSl hSz hcv hB1 hB2
  go_wp2_with fail
  go_loopw [7, 8, 9] (fun o a p wr => ∃ (k : Nat) (P : Bool) (acc : List T), a = .int .i64 k ∧ p = .bool P ∧ Sofar l k P acc ∧ wr.ownsRow w2.heap.size 50 6 o acc.length (tokCells f acc) ∧ Below w2.heap.size w2 wr) (fun _ a _ _ => S.size - (intOf a).toNat)
  case atStart => exact ⟨0, false, [], rfl, rfl, sofar_start _, World.ownsRow_nil _ _ _ _, Below.refl _ _⟩
  case round =>
    obtain ⟨k, P, acc, rfl, rfl, hsf, hrow, hB⟩ := hrel
    have hkl := hsf.1
    have hal := hsf.2.1
    rw [← Hn.out] at hkl
    by_cases hlt : k < S.size
    · have hlt' : k < l.length := by rw [← Hn.out]; exact hlt
      obtain ⟨B, hBk⟩ : ∃ B, B = Lx.blankLen (Lx.bytes (l.drop k)) := ⟨_, rfl⟩
      have HBk := Lib.hid hBk
      by_cases hb : 0 < B
      · obtain ⟨h1, h2⟩ := sofar_blank hsf (by rw [← hBk]; exact hb)
        rw [← hBk, ← Hn.out] at h1
        rw [← hBk] at h2
        clear hBk
        go_wp2_with fail
        refine (rblank_any S k (by omega) hlt _).mono ?_
        rintro e w' ⟨rfl, rfl⟩
        rw [HS.out, ← Lx.bytes_drop, ← HBk.out]
        go_wp2_with fail
        go_roundw
        case rel => exact ⟨k + B, true, acc, by go_num, rfl, h2, hrow, hB⟩
        case measure => simp [intOf]; omega
      · have hb0 : B = 0 := by omega
        obtain ⟨h1, h2, h3⟩ := sofar_tok hsf hlt' (by rw [← hBk]; exact hb0)
        obtain ⟨q, hq⟩ : ∃ q, q = Lx.first (Lx.bytes (l.drop k)) := ⟨_, rfl⟩
        obtain ⟨t, ht⟩ : ∃ t, t = Lx.tokAt P (l.drop k) := ⟨_, rfl⟩
        have htk : t.kind = q.1 := by rw [ht, hq]; rfl
        have htt : t.text = (Lx.bytes (l.drop k)).take q.2 := by rw [ht, hq]; rfl
        have htb : t.bl = P := by rw [ht]; rfl
        have htf : t.fr = (l.getD k (0, 0)).2 := by rw [ht]; unfold Lx.tokAt; simp [List.getD_eq_getElem?_getD]
        have hto : t.to = (l.getD (k + (q.2 - 1)) (0, 0)).2 + 1 := by rw [ht, hq]; unfold Lx.tokAt; simp [List.getD_eq_getElem?_getD]
        rw [← hq] at h1 h2 h3
        rw [← ht] at h3
        rw [← Hn.out] at h2
        obtain ⟨kd, m⟩ := q
        dsimp only at h1 h2 h3 htk htt hto
        have hxk : l[k]? = some (l.getD k (0, 0)) := by rw [List.getD_eq_getElem?_getD, List.getElem?_eq_getElem hlt']; rfl
        have hjl : k + (m - 1) < l.length := by rw [← Hn.out]; omega
        have hxj : l[k + (m - 1)]? = some (l.getD (k + (m - 1)) (0, 0)) := by rw [List.getD_eq_getElem?_getD, List.getElem?_eq_getElem hjl]; rfl
        have hpj := HP.out _ (List.mem_of_getElem? hxj)
        obtain ⟨g, o, had, -, -, -, hg, hcell⟩ := HC.out.cells (by omega)
        have c1 := (hcell k _ hxk).2
        have c2 := (hcell _ _ hxj).2
        rw [← htf] at c1
        obtain ⟨tl, htl⟩ : ∃ tl, tl = (l.getD (k + (m - 1)) (0, 0)).2 := ⟨_, rfl⟩
        rw [← htl] at c2 hto hpj
        subst had
        have HQ := Lib.hid hq
        have H3 := Lib.hid h3
        have HTk := Lib.hid htk
        have HTt := Lib.hid htt
        have HTo := Lib.hid hto
        have HTb := Lib.hid htb
        obtain ⟨j, hj⟩ : ∃ j, j = k + (m - 1) := ⟨_, rfl⟩
        rw [← hj] at c2
        have Hj := Lib.hid hj
        obtain ⟨fr, hfr⟩ : ∃ fr, fr = t.fr := ⟨_, rfl⟩
        rw [← hfr] at c1
        have HFr := Lib.hid hfr
        clear hq ht htk htt htb htf hto h3 hxk hjl hxj hcell htl hBk hfr hsf hj
        go_wp2_with fail
        refine (rblank_any S k (by omega) hlt _).mono ?_
        rintro e w' ⟨rfl, rfl⟩
        rw [HS.out, ← Lx.bytes_drop, ← HBk.out]
        go_wp2_with fail
        refine (next_any S k (by omega) hlt _).mono ?_
        rintro e w3 ⟨rfl, hB3⟩
        rw [HS.out, ← Lx.bytes_drop, ← HQ.out]
        replace hrow := row_below hrow hB3
        replace hB3 : Below w2.heap.size w2 w3 := hB.trans (hB3.mono hB.size)
        have d1 : w3.cell? ⟨g, o + k * 2 + 1, none⟩ = some (.int .i64 fr) := (hB3.cell (p := ⟨g, o + k * 2 + 1, none⟩) hg).trans c1
        have d2 : w3.cell? ⟨g, o + j * 2 + 1, none⟩ = some (.int .i64 tl) := (hB3.cell (p := ⟨g, o + j * 2 + 1, none⟩) hg).trans c2
        clear hB c1 c2
        go_wp2_with fail
        have ag : u7.ownBlock ≠ some g := fun e => by have := (hrow.lt g e).1; omega
        have hw3 := hB3.size
        have z0 : (0 : Int) ≤ k := by omega
        have z1 : (k : Int) < S.size := by omega
        have z2 : (k : Int) ≤ (k : Int) + m := by omega
        have z3 : (k : Int) + m ≤ S.size := by omega
        have z4 : (0 : Int) ≤ (j : Int) := by omega
        have z5 : (j : Int) < S.size := by have := Hj.out; omega
        have z6 : (0 : Int) ≤ (k : Int) + m := by omega
        have hbb : (acc.length + 1) * 56 ≤ 140737488355328 := by omega
        have hmx : acc.length + 1 ≤ maxLen := by unfold maxLen; omega
        have e4 : ((k : Int) + m).toNat = k + m := by omega
        have e1 : IntKind.i64.wrap ((k : Int) + m) = (k : Int) + m := IntWalk.i64_in _ (by omega)
        have e2 : IntKind.i64.wrap ((k : Int) + m - 1) = (j : Int) := by rw [IntWalk.i64_in _ (by omega)]; have := Hj.out; omega
        have e3 : IntKind.i64.wrap ((tl : Int) + 1) = (tl : Int) + 1 := IntWalk.i64_in _ (by omega)
        go_region_held3 (fun w' => w'.cell? ⟨g, o + k * 2 + 1, none⟩ = some (.int .i64 fr) ∧ w'.cell? ⟨g, o + j * 2 + 1, none⟩ = some (.int .i64 tl))
          (first
            | go_keep
            | (go_split_ands
               refine ⟨?_, ?_⟩
               · (rw [hgrow.cell_far _ (by simp; omega) (Ne.symm ag)]; assumption)
               · (rw [hgrow.cell_far _ (by simp; omega) (Ne.symm ag)]; assumption)))
          ((refine step_append_lies _ (by rfl) _ _ _ (by rfl) w2.heap.size 50 i0 _ 6 56 Tryz.underlying42 hi hz0 hz1 hz2 rfl (by omega) u7 acc.length (tokCells f acc) (by rfl) ((hrow.alloc _).drew)
              ⟨w3.heap.size, 0, none⟩ 1 1 [.int .i64 kd, .string (S.extract k (k + m)), .int .i64 f, .int .i64 fr, .int .i64 ((tl : Int) + 1), .bool P] (by rfl) (by rfl) (World.news_of_block (cs := #[.int .i64 kd, .string (S.extract k (k + m)), .int .i64 f, .int .i64 fr, .int .i64 ((tl : Int) + 1), .bool P]) (t := 50) (fr := (0, 0)) (heap_alloc_new w3 _)) (by simp [Value.oneCell'])
              (by omega) hmx hbb (by simp; omega) (w3.heap.size + 1) (by simp) ?_; intro gg cap' w4 hown1 hgrow hat hlt4))
        clear e1 e2 e3 e4
        go_wp2_with fail
        go_roundw
        case rel =>
          refine ⟨k + m, false, acc ++ [t], by go_num, rfl, H3.out, ?_, ?_⟩
          · have hx : S.extract k (k + m) = ⟨t.text.toArray⟩ := by rw [extract_list, HS.out, ← Lx.bytes_drop, HTt.out, show k + m - k = m by omega]
            have hc : tokCells f (acc ++ [t]) = tokCells f acc ++ [.int .i64 kd, .string (S.extract k (k + m)), .int .i64 f, .int .i64 fr, .int .i64 ((tl : Int) + 1), .bool P] := by
              rw [tokCells_append, hx, HFr.out, show ((tl : Int) + 1) = ((t.to : Nat) : Int) by rw [HTo.out]; rfl, ← HTb.out, ← HTk.out]
              simp [tokCells, cellsOne]
            rw [hc, List.length_append]
            exact hown1
          · exact ((hB3.alloc hw3 _).drew).grown hgrow (by simp; omega) (fun i ei => (hrow.lt i ei).1)
        case measure => simp [intOf]; omega
    · have he := sofar_end hsf (by rw [← Hn.out]; omega)
      go_wp2_with fail
      go_ret
      rw [← he]
      exact ⟨_, rfl, row_mono hrow HB2.out.size, HB2.out.trans (hB.mono HB2.out.size)⟩
theorem rtokens_any (f : Int) (s : ByteArray) (hs : s.size ≤ 1000000000) (w : World) :
    Calls Tryz.prog 28 #[.int .i64 f, .string s] w (ToksPost w f (Lx.tk false (Sp.left 0 s.data.toList))) :=
  (rtokens_row f s hs w).mono fun _ _ ⟨v, h1, h2, h3⟩ => ⟨v, h1, Toks.of_row h2, h3⟩
end Go.Proofs.YtdopmmnabhcigaaGreatDoor

/- What is proved: what the document's own Kind tells of any word. -/
namespace Go.Proofs.YtdopmmnabhcigaaGreatDoor
open Go.RowKit Go.Shelf

set_option maxHeartbeats 4000000 in
set_option maxRecDepth 100000 in
theorem rkind_any (x : ByteArray) (w : World) : Calls Tryz.prog 70 #[.string x] w fun e w' => e = .returned (.int .i64 (Dx.kindOf x)) ∧ w = w' := by
  rcases Dx.kind_cases x with hno | ⟨k, hk, rfl⟩
  · rw [Dx.kind_miss x hno]
    have no : ∀ (k : Nat) (l : List UInt8), k < 12 → wordTab.getD k [] = l → (x.toList == l) = false := fun k l hk hl => by
      have h1 : x ≠ ⟨l.toArray⟩ := fun e => hno k hk (by rw [e, ← hl]; rfl)
      have h2 := ba_beq x ⟨l.toArray⟩
      rw [decide_eq_false h1] at h2
      rwa [show (⟨l.toArray⟩ : ByteArray).toList = l from by rw [Lib.toList_data]] at h2
    have m0 : (x.toList == [105, 102]) = false := no 0 [105, 102] (by omega) rfl
    have m1 : (x.toList == [105, 102, 100, 101, 102]) = false := no 1 [105, 102, 100, 101, 102] (by omega) rfl
    have m2 : (x.toList == [105, 102, 110, 100, 101, 102]) = false := no 2 [105, 102, 110, 100, 101, 102] (by omega) rfl
    have m3 : (x.toList == [101, 108, 105, 102]) = false := no 3 [101, 108, 105, 102] (by omega) rfl
    have m4 : (x.toList == [101, 108, 115, 101]) = false := no 4 [101, 108, 115, 101] (by omega) rfl
    have m5 : (x.toList == [101, 110, 100, 105, 102]) = false := no 5 [101, 110, 100, 105, 102] (by omega) rfl
    have m6 : (x.toList == [100, 101, 102, 105, 110, 101]) = false := no 6 [100, 101, 102, 105, 110, 101] (by omega) rfl
    have m7 : (x.toList == [117, 110, 100, 101, 102]) = false := no 7 [117, 110, 100, 101, 102] (by omega) rfl
    have m8 : (x.toList == [105, 110, 99, 108, 117, 100, 101]) = false := no 8 [105, 110, 99, 108, 117, 100, 101] (by omega) rfl
    have m9 : (x.toList == [101, 114, 114, 111, 114]) = false := no 9 [101, 114, 114, 111, 114] (by omega) rfl
    have m10 : (x.toList == [112, 114, 97, 103, 109, 97]) = false := no 10 [112, 114, 97, 103, 109, 97] (by omega) rfl
    have m11 : (x.toList == [108, 105, 110, 101]) = false := no 11 [108, 105, 110, 101] (by omega) rfl
    clear hno no
    go_enter Tryz.func70, Tryz.ntmps70
    go_wp2_with fail
    go_ret
    exact ⟨rfl, rfl⟩
  · rw [Dx.kind_hit k hk]
    have hc : k = 0 ∨ k = 1 ∨ k = 2 ∨ k = 3 ∨ k = 4 ∨ k = 5 ∨ k = 6 ∨ k = 7 ∨ k = 8 ∨ k = 9 ∨ k = 10 ∨ k = 11 := by omega
    rcases hc with rfl | rfl | rfl | rfl | rfl | rfl | rfl | rfl | rfl | rfl | rfl | rfl
    · rw [show Dx.wordAt 0 = ⟨#[105, 102]⟩ from rfl]
      go_enter Tryz.func70, Tryz.ntmps70
      go_wp2_with fail
      go_ret
      exact ⟨rfl, rfl⟩
    · rw [show Dx.wordAt 1 = ⟨#[105, 102, 100, 101, 102]⟩ from rfl]
      go_enter Tryz.func70, Tryz.ntmps70
      go_wp2_with fail
      go_ret
      exact ⟨rfl, rfl⟩
    · rw [show Dx.wordAt 2 = ⟨#[105, 102, 110, 100, 101, 102]⟩ from rfl]
      go_enter Tryz.func70, Tryz.ntmps70
      go_wp2_with fail
      go_ret
      exact ⟨rfl, rfl⟩
    · rw [show Dx.wordAt 3 = ⟨#[101, 108, 105, 102]⟩ from rfl]
      go_enter Tryz.func70, Tryz.ntmps70
      go_wp2_with fail
      go_ret
      exact ⟨rfl, rfl⟩
    · rw [show Dx.wordAt 4 = ⟨#[101, 108, 115, 101]⟩ from rfl]
      go_enter Tryz.func70, Tryz.ntmps70
      go_wp2_with fail
      go_ret
      exact ⟨rfl, rfl⟩
    · rw [show Dx.wordAt 5 = ⟨#[101, 110, 100, 105, 102]⟩ from rfl]
      go_enter Tryz.func70, Tryz.ntmps70
      go_wp2_with fail
      go_ret
      exact ⟨rfl, rfl⟩
    · rw [show Dx.wordAt 6 = ⟨#[100, 101, 102, 105, 110, 101]⟩ from rfl]
      go_enter Tryz.func70, Tryz.ntmps70
      go_wp2_with fail
      go_ret
      exact ⟨rfl, rfl⟩
    · rw [show Dx.wordAt 7 = ⟨#[117, 110, 100, 101, 102]⟩ from rfl]
      go_enter Tryz.func70, Tryz.ntmps70
      go_wp2_with fail
      go_ret
      exact ⟨rfl, rfl⟩
    · rw [show Dx.wordAt 8 = ⟨#[105, 110, 99, 108, 117, 100, 101]⟩ from rfl]
      go_enter Tryz.func70, Tryz.ntmps70
      go_wp2_with fail
      go_ret
      exact ⟨rfl, rfl⟩
    · rw [show Dx.wordAt 9 = ⟨#[101, 114, 114, 111, 114]⟩ from rfl]
      go_enter Tryz.func70, Tryz.ntmps70
      go_wp2_with fail
      go_ret
      exact ⟨rfl, rfl⟩
    · rw [show Dx.wordAt 10 = ⟨#[112, 114, 97, 103, 109, 97]⟩ from rfl]
      go_enter Tryz.func70, Tryz.ntmps70
      go_wp2_with fail
      go_ret
      exact ⟨rfl, rfl⟩
    · rw [show Dx.wordAt 11 = ⟨#[108, 105, 110, 101]⟩ from rfl]
      go_enter Tryz.func70, Tryz.ntmps70
      go_wp2_with fail
      go_ret
      exact ⟨rfl, rfl⟩

end Go.Proofs.YtdopmmnabhcigaaGreatDoor
