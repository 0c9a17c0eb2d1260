/- What is proved: what add does where it sets the last token. (and what stands with it) -/
import Derived.Test.YtlepnafgcmeimaaGreatDoorGo
import Derived.Test.YtlepnafgcmeimaaGreatDoorGm
import Derived.BigRegion
import Derived.Test.YtlepnafgcmeimaaGreatDoorGj

/- What is proved: what add does where it sets the last token. -/
namespace Go.Proofs.YtlepnafgcmeimaaGreatDoor
open Go.RowKit Go.Shelf
open Ep (HT)

set_option maxRecDepth 100000 in
set_option maxHeartbeats 4000000 in
theorem add_mark (w W : World) (n fb B : Nat) (ov : Value) (i : List HT) (l t : HT) (p : Option Addr) (c1 c2 c5 c6 c7 c8 c9 c10 c11 c12 c13 c14 c15 c16 c17 c18 c19 c20 c21 c22 c23 c24 c25 c26 c27 c28 c29 c30 c31 c32 c33 c34 c35 c36 c37 c38 c39 c40 c41 c42 c43 c44 c45 c46 c47 c48 c49 c50 c51 c52 c53 c54 c55 c56 c57 c58 c59 c60 c61 c62 c63 c64 c65 c66 c67 c68 c69 c70 c71 c72 c73 c74 c75 c76 c77 : Value) (h : Fs W n fb ov ⟨i ++ [l], false⟩) (hbx : W.heap[B]? = some (boxHt t p))
    (hp : HidP W p t.hd) (hB : Below n w W) (hn : n ≤ W.heap.size) (hl : (i ++ [l]).length < 4001) (hm : l.mark = true) :
    Code.wp Tryz.prog (secs 1 addBody) (bodyPost Tryz.prog Tryz.f97 (AddPost n fb w (.ok ⟨i ++ [t], false⟩))) ⟨#[.pointer (some ⟨fb, 0, none⟩), c1, c2, .pointer (some ⟨B, 0, none⟩), .int .i64 0, c5, c6, c7, c8, c9, c10, c11, c12, c13, c14, c15, c16, c17, c18, c19, c20, c21, c22, c23, c24, c25, c26, c27, c28, c29, c30, c31, c32, c33, c34, c35, c36, c37, c38, c39, c40, c41, c42, c43, c44, c45, c46, c47, c48, c49, c50, c51, c52, c53, c54, c55, c56, c57, c58, c59, c60, c61, c62, c63, c64, c65, c66, c67, c68, c69, c70, c71, c72, c73, c74, c75, c76, c77], []⟩ W := by
  have hlt := lt_of_heap h.blk
  have hBl := lt_of_heap hbx
  obtain ⟨⟨kd, tx, fl, fr, en, bl⟩, hd, mk⟩ := t
  unfold boxHt at hbx
  dsimp only at hbx hp
  obtain ⟨x0, x1, x2, x3, x4, x5, x6, x7, xf⟩ := box8_cells hbx
  have hf0 : W.frozen? ⟨fb, 0, none⟩ = false := by simp [World.frozen?, h.blk]
  have HH := Lib.hid h
  have HBX := Lib.hid hbx
  have HP := Lib.hid hp
  have HB := Lib.hid hB
  have HN := Lib.hid hn
  clear hbx hp hB
  obtain ⟨g, cap, pl, cs', cur, rfl, hng, hgl, b1, b2, hpl, hrow2, hcs2, hg, hfz, hcell⟩ := h.row.last
  rw [show (i ++ [l]).length = i.length + 1 by simp] at hl
  have d7 := hcell 7 _ rfl
  rw [hm] at d7
  have q1 : (0 : Int) ≤ (i.length : Int) := by omega
  have q2 : (i.length : Int) < (i.length : Int) + 1 := by omega
  have q3 : IntKind.i64.wrap ((i.length : Int) + 1 - 1) = i.length := by rw [Int.add_sub_cancel]; exact IntWalk.i64_in _ (by omega)
  have q4 : ((i.length : Int) + 1 - 1) = i.length := Int.add_sub_cancel _ _
  have g1 : W.cell? ⟨fb, 1, none⟩ = some (.bool false) := (Lib.cell_of_heap h.blk 1).trans rfl
  have c0 : W.cell? ⟨fb, 0, none⟩ = some (.slice (some ⟨g, 0, none⟩) (i.length + 1) cap) := (Lib.cell_of_heap h.blk 0).trans rfl
  have e0 := hcell 0 _ rfl
  have e1 := hcell 1 _ rfl
  have e2 := hcell 2 _ rfl
  have e3 := hcell 3 _ rfl
  have e4 := hcell 4 _ rfl
  have e5 := hcell 5 _ rfl
  have e6 := hcell 6 _ rfl
  rw [Nat.add_zero] at e0
  have HFZ := Lib.hid hfz
  have hz0 := hfz (i.length * 8)
  have hz1 := hfz (i.length * 8 + 1)
  have hz2 := hfz (i.length * 8 + 2)
  have hz3 := hfz (i.length * 8 + 3)
  have hz4 := hfz (i.length * 8 + 4)
  have hz5 := hfz (i.length * 8 + 5)
  have hz6 := hfz (i.length * 8 + 6)
  have hz7 := hfz (i.length * 8 + 7)
  have HSET := Lib.hid (Fs.setLast (y := ⟨⟨kd, tx, fl, fr, en, bl⟩, hd, mk⟩) HH.out.blk HH.out.hn hrow2 hcs2 hg HP.out)
  have HBL := Lib.hid (fun a0 a1 a2 a3 a4 a5 a6 a7 => put8_below (o := i.length * 8) HB.out hng a0 a1 a2 a3 a4 a5 a6 a7)
  clear hrow2 hcs2 hg hfz hcell hpl h
  refine wp_sec 1 addBody rfl ?_
  conv => arg 2; whnf
  go_wp2_with fail
  refine wp_sec 2 addBody rfl ?_
  conv => arg 2; whnf
  go_wp2_with fail
  go_region
  have HF := Lib.hid (HSET.out.below ((Below.refl _ _).drew))
  have HW := Lib.hid ((HBL.out (.int .i64 kd) (.string tx) (.int .i64 fl) (.int .i64 fr) (.int .i64 en) (.bool bl) (.pointer p) (.bool mk)).drew)
  go_wp2_with fail
  refine wp_sec 3 addBody rfl ?_
  conv => arg 2; whnf
  go_wp2_with fail
  conv => arg 2; whnf
  go_wp2_with fail
  exact bodyPost_ret (v := .int .i64 0) (by simp [results, Tryz.results97, go_sem]) rfl ⟨rfl, ⟨_, HF.out⟩, HW.out⟩
end Go.Proofs.YtlepnafgcmeimaaGreatDoor

/- What is proved: what add does where it glues. -/
namespace Go.Proofs.YtlepnafgcmeimaaGreatDoor
open Go.RowKit Go.Shelf
open Ep (HT)

theorem below_eight {n B : Nat} {w W : World} (hB : Below n w W) (hn : n ≤ B) (a0 a1 a2 a3 a4 a5 a6 a7 : Value) : Below n w ((((((((W.setCell ⟨B, 0, none⟩ a0).setCell ⟨B, 1, none⟩ a1).setCell ⟨B, 2, none⟩ a2).setCell ⟨B, 3, none⟩ a3).setCell ⟨B, 4, none⟩ a4).setCell ⟨B, 5, none⟩ a5).setCell ⟨B, 6, none⟩ a6).setCell ⟨B, 7, none⟩ a7) := set8_below hB hn a0 a1 a2 a3 a4 a5 a6 a7
set_option maxRecDepth 100000 in
set_option maxHeartbeats 4000000 in
theorem add_glue (w W : World) (n fb B : Nat) (ov : Value) (i : List HT) (l t : HT) (p : Option Addr) (c1 c2 c5 c6 c7 c8 c9 c10 c11 c12 c13 c14 c15 c16 c17 c18 c19 c20 c21 c22 c23 c24 c25 c26 c27 c28 c29 c30 c31 c32 c33 c34 c35 c36 c37 c38 c39 c40 c41 c42 c43 c44 c45 c46 c47 c48 c49 c50 c51 c52 c53 c54 c55 c56 c57 c58 c59 c60 c61 c62 c63 c64 c65 c66 c67 c68 c69 c70 c71 c72 c73 c74 c75 c76 c77 : Value) (h : Fs W n fb ov ⟨i ++ [l], true⟩) (hbx : W.heap[B]? = some (boxHt t p))
    (hp : HidP W p t.hd) (hB : Below n w W) (hn : n ≤ W.heap.size) (hl : (i ++ [l]).length < 4001) (hG : Glob w) (hn1 : 1 < n) (o : HT) (e : Int) (hpo : Ep.pasted l t = some (o, e)) (rr : Except Int Ep.Fl) (hrr : rr = if e = 0 then .ok ⟨i ++ [o], false⟩ else .error e) :
    Code.wp Tryz.prog (secs 1 addBody) (bodyPost Tryz.prog Tryz.f97 (AddPost n fb w rr)) ⟨#[.pointer (some ⟨fb, 0, none⟩), c1, c2, .pointer (some ⟨B, 0, none⟩), .int .i64 0, c5, c6, c7, c8, c9, c10, c11, c12, c13, c14, c15, c16, c17, c18, c19, c20, c21, c22, c23, c24, c25, c26, c27, c28, c29, c30, c31, c32, c33, c34, c35, c36, c37, c38, c39, c40, c41, c42, c43, c44, c45, c46, c47, c48, c49, c50, c51, c52, c53, c54, c55, c56, c57, c58, c59, c60, c61, c62, c63, c64, c65, c66, c67, c68, c69, c70, c71, c72, c73, c74, c75, c76, c77], []⟩ W := by
  have hlt := lt_of_heap h.blk
  have hBl := lt_of_heap hbx
  obtain ⟨⟨kd, tx, fl, fr, en, bl⟩, hd, mk⟩ := t
  unfold boxHt at hbx
  dsimp only at hbx hp
  obtain ⟨x0, x1, x2, x3, x4, x5, x6, x7, xf⟩ := box8_cells hbx
  have hf0 : W.frozen? ⟨fb, 0, none⟩ = false := by simp [World.frozen?, h.blk]
  have HH := Lib.hid h
  have HBX := Lib.hid hbx
  have HP := Lib.hid hp
  have HB := Lib.hid hB
  have HN := Lib.hid hn
  clear hbx hp hB
  obtain ⟨g, cap, pl, cs', cur, rfl, hng, hgl, b1, b2, hpl, hrow2, hcs2, hg, hfz, hcell⟩ := h.row.last
  rw [show (i ++ [l]).length = i.length + 1 by simp] at hl
  have d7 := hcell 7 _ rfl
  have q1 : (0 : Int) ≤ (i.length : Int) := by omega
  have q2 : (i.length : Int) < (i.length : Int) + 1 := by omega
  have q3 : IntKind.i64.wrap ((i.length : Int) + 1 - 1) = i.length := by rw [Int.add_sub_cancel]; exact IntWalk.i64_in _ (by omega)
  have q4 : ((i.length : Int) + 1 - 1) = i.length := Int.add_sub_cancel _ _
  have g1 : W.cell? ⟨fb, 1, none⟩ = some (.bool true) := (Lib.cell_of_heap h.blk 1).trans rfl
  have gf : W.frozen? ⟨fb, 1, none⟩ = false := by simp [World.frozen?, h.blk]
  have c0 : W.cell? ⟨fb, 0, none⟩ = some (.slice (some ⟨g, 0, none⟩) (i.length + 1) cap) := (Lib.cell_of_heap h.blk 0).trans rfl
  have e0 := hcell 0 _ rfl
  have e1 := hcell 1 _ rfl
  have e2 := hcell 2 _ rfl
  have e3 := hcell 3 _ rfl
  have e4 := hcell 4 _ rfl
  have e5 := hcell 5 _ rfl
  have e6 := hcell 6 _ rfl
  rw [Nat.add_zero] at e0
  have HFZ := Lib.hid hfz
  have hz0 := hfz (i.length * 8)
  have hz1 := hfz (i.length * 8 + 1)
  have hz2 := hfz (i.length * 8 + 2)
  have hz3 := hfz (i.length * 8 + 3)
  have hz4 := hfz (i.length * 8 + 4)
  have hz5 := hfz (i.length * 8 + 5)
  have hz6 := hfz (i.length * 8 + 6)
  have hz7 := hfz (i.length * 8 + 7)
  have hne : fb ≠ g := fun e => by have h1 := h.blk; rw [e, hg] at h1; injection h1 with h1; injection h1 with _ h1 _; exact absurd h1 (by decide)
  have HROW2 := Lib.hid hrow2
  have HCS2 := Lib.hid hcs2
  have HGG := Lib.hid hg
  have HPL := Lib.hid hpl
  have HPO := Lib.hid hpo
  obtain ⟨⟨kdl, txl, fll, frl, enl, bll⟩, hdl, mkl⟩ := l
  dsimp only at e0 e1 e2 e3 e4 e5 e6 d7
  have HRR := Lib.hid hrr
  have k2 : ∀ t, t ≠ 147 → Kept t W (W.setCell ⟨fb, 1, none⟩ (.bool false)) := fun t ht => Kept.set h.blk ht
  have HBS := Lib.hid (show Below n w (W.setCell ⟨fb, 1, none⟩ (.bool false)) from HB.out.setCell (show n ≤ fb from h.hn) _)
  have HPAST := Lib.hid (show ∀ X, Below (W.setCell ⟨fb, 1, none⟩ (.bool false)).heap.size (W.setCell ⟨fb, 1, none⟩ (.bool false)) X → Calls Tryz.prog 104 #[.agg #[.int .i64 kdl, .string txl, .int .i64 fll, .int .i64 frl, .int .i64 enl, .bool bll, .pointer pl, .bool mkl], .agg #[.int .i64 kd, .string tx, .int .i64 fl, .int .i64 fr, .int .i64 en, .bool bl, .pointer p, .bool mk]] X (fun e4 w4 => ∃ r, e4 = .returned (.tuple #[.agg #[.int .i64 o.t.kind, .string o.t.text, .int .i64 o.t.file, .int .i64 o.t.fr, .int .i64 o.t.en, .bool o.t.bl, .pointer r, .bool o.mark], .int .i64 e]) ∧ HidP w4 r o.hd ∧ Below (W.setCell ⟨fb, 1, none⟩ (.bool false)).heap.size (W.setCell ⟨fb, 1, none⟩ (.bool false)) w4 ∧ ∀ b, b < X.heap.size → w4.heap[b]? = X.heap[b]?) from fun X hX =>
    (epasted_any ⟨⟨kdl, txl, fll, frl, enl, bll⟩, hdl, mkl⟩ ⟨⟨kd, tx, fl, fr, en, bl⟩, hd, mk⟩ pl p X ((hG.below HBS.out hn1).later hX) ((hpl.keep (k2 _ (by decide))).keep (Kept.of_below hX _)) ((HP.out.keep (k2 _ (by decide))).keep (Kept.of_below hX _)) o e hpo).mono (fun e4 w4 ⟨r, h1, h2, h3⟩ => ⟨r, h1, h2, Below.then hX h3, h3.block⟩))
  clear hrow2 hcs2 hg hfz hcell hpl h hpo hG hrr k2
  refine wp_sec 1 addBody rfl ?_
  conv => arg 2; whnf
  go_wp2_with fail
  refine wp_sec 2 addBody rfl ?_
  conv => arg 2; whnf
  go_wp2_with fail
  have hneB : B ≠ fb := fun e => by have h1 := HH.out.blk; rw [← e, HBX.out] at h1; injection h1 with h1; injection h1 with _ h1 _; exact absurd h1 (by decide)
  have hh := Lib.hid (show ∀ b o, b ≠ fb → (W.setCell ⟨fb, 1, none⟩ (.bool false)).cell? ⟨b, o, none⟩ = W.cell? ⟨b, o, none⟩ from fun b o hb => World.cell?_of_block (a := ⟨b, o, none⟩) (heap_setCell_other W ⟨fb, 1, none⟩ b _ hb))
  have hgl2 := HH.out.setGl false
  have c0' : (W.setCell ⟨fb, 1, none⟩ (.bool false)).cell? ⟨fb, 0, none⟩ = some (.slice (some ⟨g, 0, none⟩) (i.length + 1) cap) := (Lib.cell_of_heap hgl2.blk 0).trans rfl
  have hng' : g ≠ fb := Ne.symm hne
  have e0' := (hh.out g (i.length * 8) hng').trans e0
  have e1' := (hh.out g (i.length * 8 + 1) hng').trans e1
  have e2' := (hh.out g (i.length * 8 + 2) hng').trans e2
  have e3' := (hh.out g (i.length * 8 + 3) hng').trans e3
  have e4' := (hh.out g (i.length * 8 + 4) hng').trans e4
  have e5' := (hh.out g (i.length * 8 + 5) hng').trans e5
  have e6' := (hh.out g (i.length * 8 + 6) hng').trans e6
  have e7' := (hh.out g (i.length * 8 + 7) hng').trans d7
  have x0' := (hh.out B 0 hneB).trans x0
  have x1' := (hh.out B 1 hneB).trans x1
  have x2' := (hh.out B 2 hneB).trans x2
  have x3' := (hh.out B 3 hneB).trans x3
  have x4' := (hh.out B 4 hneB).trans x4
  have x5' := (hh.out B 5 hneB).trans x5
  have x6' := (hh.out B 6 hneB).trans x6
  have x7' := (hh.out B 7 hneB).trans x7
  have HS2 := Lib.hid hgl2
  have HG2 := Lib.hid ((heap_setCell_other W ⟨fb, 1, none⟩ g (.bool false) hng').trans HGG.out)
  have hsz2 : (W.setCell ⟨fb, 1, none⟩ (.bool false)).heap.size = W.heap.size := by simp
  generalize W.setCell ⟨fb, 1, none⟩ (.bool false) = W2 at c0' e0' e1' e2' e3' e4' e5' e6' e7' x0' x1' x2' x3' x4' x5' x6' x7' HS2 HG2 hsz2 HBS HPAST ⊢
  clear c0 g1 gf e0 e1 e2 e3 e4 e5 e6 d7 x0 x1 x2 x3 x4 x5 x6 x7 xf hgl2 hh hz0 hz1 hz2 hz3 hz4 hz5 hz6 hz7
  have HS0 := Lib.hid (show ∀ X, Below W2.heap.size W2 X → (X.cell? ⟨fb, 0, none⟩ = some (.slice (some ⟨g, 0, none⟩) (i.length + 1) cap) ∧ X.cell? ⟨g, i.length * 8, none⟩ = some (.int .i64 kdl) ∧ X.cell? ⟨g, i.length * 8 + 1, none⟩ = some (.string txl) ∧ X.cell? ⟨g, i.length * 8 + 2, none⟩ = some (.int .i64 fll) ∧ X.cell? ⟨g, i.length * 8 + 3, none⟩ = some (.int .i64 frl) ∧ X.cell? ⟨g, i.length * 8 + 4, none⟩ = some (.int .i64 enl) ∧ X.cell? ⟨g, i.length * 8 + 5, none⟩ = some (.bool bll) ∧ X.cell? ⟨g, i.length * 8 + 6, none⟩ = some (.pointer pl) ∧ X.cell? ⟨g, i.length * 8 + 7, none⟩ = some (.bool mkl) ∧ X.cell? ⟨B, 0, none⟩ = some (.int .i64 kd) ∧ X.cell? ⟨B, 1, none⟩ = some (.string tx) ∧ X.cell? ⟨B, 2, none⟩ = some (.int .i64 fl) ∧ X.cell? ⟨B, 3, none⟩ = some (.int .i64 fr) ∧ X.cell? ⟨B, 4, none⟩ = some (.int .i64 en) ∧ X.cell? ⟨B, 5, none⟩ = some (.bool bl) ∧ X.cell? ⟨B, 6, none⟩ = some (.pointer p) ∧ X.cell? ⟨B, 7, none⟩ = some (.bool mk)) from fun X hX =>
    ⟨(World.cell?_of_block (w := W2) (w' := X) (a := ⟨fb, 0, none⟩) (hX.block fb (by omega))).trans c0', (World.cell?_of_block (w := W2) (w' := X) (a := ⟨g, i.length * 8, none⟩) (hX.block g (by omega))).trans e0', (World.cell?_of_block (w := W2) (w' := X) (a := ⟨g, i.length * 8 + 1, none⟩) (hX.block g (by omega))).trans e1', (World.cell?_of_block (w := W2) (w' := X) (a := ⟨g, i.length * 8 + 2, none⟩) (hX.block g (by omega))).trans e2', (World.cell?_of_block (w := W2) (w' := X) (a := ⟨g, i.length * 8 + 3, none⟩) (hX.block g (by omega))).trans e3', (World.cell?_of_block (w := W2) (w' := X) (a := ⟨g, i.length * 8 + 4, none⟩) (hX.block g (by omega))).trans e4', (World.cell?_of_block (w := W2) (w' := X) (a := ⟨g, i.length * 8 + 5, none⟩) (hX.block g (by omega))).trans e5', (World.cell?_of_block (w := W2) (w' := X) (a := ⟨g, i.length * 8 + 6, none⟩) (hX.block g (by omega))).trans e6', (World.cell?_of_block (w := W2) (w' := X) (a := ⟨g, i.length * 8 + 7, none⟩) (hX.block g (by omega))).trans e7', (World.cell?_of_block (w := W2) (w' := X) (a := ⟨B, 0, none⟩) (hX.block B (by omega))).trans x0', (World.cell?_of_block (w := W2) (w' := X) (a := ⟨B, 1, none⟩) (hX.block B (by omega))).trans x1', (World.cell?_of_block (w := W2) (w' := X) (a := ⟨B, 2, none⟩) (hX.block B (by omega))).trans x2', (World.cell?_of_block (w := W2) (w' := X) (a := ⟨B, 3, none⟩) (hX.block B (by omega))).trans x3', (World.cell?_of_block (w := W2) (w' := X) (a := ⟨B, 4, none⟩) (hX.block B (by omega))).trans x4', (World.cell?_of_block (w := W2) (w' := X) (a := ⟨B, 5, none⟩) (hX.block B (by omega))).trans x5', (World.cell?_of_block (w := W2) (w' := X) (a := ⟨B, 6, none⟩) (hX.block B (by omega))).trans x6', (World.cell?_of_block (w := W2) (w' := X) (a := ⟨B, 7, none⟩) (hX.block B (by omega))).trans x7'⟩)
  have hW1 := Below.refl W2.heap.size W2
  have HSZ2 := Lib.hid hsz2
  clear hsz2 hBl hlt hn
  go_region_held3 (fun X => (X.cell? ⟨fb, 0, none⟩ = some (.slice (some ⟨g, 0, none⟩) (i.length + 1) cap) ∧ X.cell? ⟨g, i.length * 8, none⟩ = some (.int .i64 kdl) ∧ X.cell? ⟨g, i.length * 8 + 1, none⟩ = some (.string txl) ∧ X.cell? ⟨g, i.length * 8 + 2, none⟩ = some (.int .i64 fll) ∧ X.cell? ⟨g, i.length * 8 + 3, none⟩ = some (.int .i64 frl) ∧ X.cell? ⟨g, i.length * 8 + 4, none⟩ = some (.int .i64 enl) ∧ X.cell? ⟨g, i.length * 8 + 5, none⟩ = some (.bool bll) ∧ X.cell? ⟨g, i.length * 8 + 6, none⟩ = some (.pointer pl) ∧ X.cell? ⟨g, i.length * 8 + 7, none⟩ = some (.bool mkl) ∧ X.cell? ⟨B, 0, none⟩ = some (.int .i64 kd) ∧ X.cell? ⟨B, 1, none⟩ = some (.string tx) ∧ X.cell? ⟨B, 2, none⟩ = some (.int .i64 fl) ∧ X.cell? ⟨B, 3, none⟩ = some (.int .i64 fr) ∧ X.cell? ⟨B, 4, none⟩ = some (.int .i64 en) ∧ X.cell? ⟨B, 5, none⟩ = some (.bool bl) ∧ X.cell? ⟨B, 6, none⟩ = some (.pointer p) ∧ X.cell? ⟨B, 7, none⟩ = some (.bool mk)))
    ((refine HS0.out _ ?_
      first
       | with_reducible exact hW1
       | with_reducible exact hWc
       | with_reducible exact hW1.drew
       | with_reducible exact below_eight hWc (Nat.le_refl _) _ _ _ _ _ _ _ _
       | with_reducible exact hW1.drew.alloc (Nat.le_refl _) _
       | with_reducible exact hWc.alloc hWc.size _
       | exact hW1.drew.alloc (Nat.le_refl _) _
       | exact hW1.drew.alloc (Nat.le_refl _) _
       | exact (hW1.alloc (Nat.le_refl _) _).drew
       | exact hWc.alloc hWc.size _
       | exact below_eight hWc (Nat.le_refl _) _ _ _ _ _ _ _ _))
    (first
      | (go_at_call 104; go_split_ands; refine (HPAST.out _ hW1.drew).mono ?_; rintro e4 wc ⟨r4, rfl, hr4, hWc, hold⟩)
      | (go_at_call 104; go_split_ands; refine (HPAST.out _ (hW1.drew.alloc (Nat.le_refl _) (.cells #[.int .i64 0, .string ⟨#[]⟩, .int .i64 0, .int .i64 0, .int .i64 0, .bool false, .pointer none, .bool false] 92))).mono ?_; rintro e4 wc ⟨r4, rfl, hr4, hWc, hold⟩; have hN : wc.heap[W2.heap.size]? = some (.cells #[.int .i64 0, .string ⟨#[]⟩, .int .i64 0, .int .i64 0, .int .i64 0, .bool false, .pointer none, .bool false] 92 (0, 0)) := (hold W2.heap.size (by simp)).trans (heap_alloc_new W2.drew (.cells #[.int .i64 0, .string ⟨#[]⟩, .int .i64 0, .int .i64 0, .int .i64 0, .bool false, .pointer none, .bool false] 92)); obtain ⟨v0, v1, v2, v3, v4, v5, v6, v7, vf⟩ := box8_cells hN)
      | (go_at_call 104; go_split_ands; trace_state; fail))
  · have HW0 := Lib.hid (show n ≤ W2.heap.size by rw [HSZ2.out]; exact HN.out)
    have hk6 := heap_alloc_new wc (.cells #[.int .i64 o.t.kind, .string o.t.text, .int .i64 o.t.file, .int .i64 o.t.fr, .int .i64 o.t.en, .bool o.t.bl, .pointer r4, .bool o.mark] 92)
    have hB6 : Below W2.heap.size W2 (wc.alloc (.cells #[.int .i64 o.t.kind, .string o.t.text, .int .i64 o.t.file, .int .i64 o.t.fr, .int .i64 o.t.en, .bool o.t.bl, .pointer r4, .bool o.mark] 92)) := hWc.alloc hWc.size _
    have hr6 : HidP (wc.alloc (.cells #[.int .i64 o.t.kind, .string o.t.text, .int .i64 o.t.file, .int .i64 o.t.fr, .int .i64 o.t.en, .bool o.t.bl, .pointer r4, .bool o.mark] 92)) r4 o.hd := hr4.keep (Kept.alloc _ _ _)
    clear hr4 hWc hold hW1
    have hW0 := HW0.out
    generalize wc.alloc (.cells #[.int .i64 o.t.kind, .string o.t.text, .int .i64 o.t.file, .int .i64 o.t.fr, .int .i64 o.t.en, .bool o.t.bl, .pointer r4, .bool o.mark] 92) = W6 at hk6 hB6 hr6 ⊢
    generalize wc.heap.size = T6 at hk6 ⊢
    obtain ⟨b0, b1, b2, b3, b4, b5, b6, b7, -⟩ := box8_cells hk6
    obtain ⟨y0, y1, y2, y3, y4, y5, y6, y7, y8, -⟩ := HS0.out W6 hB6
    have hfs := HS2.out.below hB6
    obtain ⟨g', cap', pl', cs2, cur2, he2, -, -, -, -, -, hrow2, hcs2, hg2, hfz2, -⟩ := hfs.row.last
    cases he2
    have hz0 := hfz2 (i.length * 8)
    have hz1 := hfz2 (i.length * 8 + 1)
    have hz2 := hfz2 (i.length * 8 + 2)
    have hz3 := hfz2 (i.length * 8 + 3)
    have hz4 := hfz2 (i.length * 8 + 4)
    have hz5 := hfz2 (i.length * 8 + 5)
    have hz6 := hfz2 (i.length * 8 + 6)
    have hz7 := hfz2 (i.length * 8 + 7)
    have HSET := Lib.hid ((Fs.setLast (y := o) hfs.blk hfs.hn hrow2 hcs2 hg2 hr6).below ((Below.refl _ _).drew))
    have HBL := Lib.hid ((put8_below (o := i.length * 8) (HBS.out.trans (hB6.mono hW0)) hng (.int .i64 o.t.kind) (.string o.t.text) (.int .i64 o.t.file) (.int .i64 o.t.fr) (.int .i64 o.t.en) (.bool o.t.bl) (.pointer r4) (.bool o.mark)).drew)
    clear hrow2 hcs2 hg2 hfz2 hfs hk6 hB6 hr6 hW0
    go_wp2_with fail
    go_region
    go_wp2_with fail
    refine bodyPost_ret (v := .int .i64 e) (by simp [results, Tryz.results97, go_sem]) rfl ?_
    rw [HRR.out]
    by_cases he : e = 0
    · rw [if_pos he]
      exact ⟨by rw [he], ⟨_, HSET.out⟩, HBL.out⟩
    · rw [if_neg he]
      exact ⟨rfl, he, HBL.out⟩
  · have HW0 := Lib.hid (show n ≤ W2.heap.size by rw [HSZ2.out]; exact HN.out)
    have hk6 := set8_at hN (.int .i64 o.t.kind) (.string o.t.text) (.int .i64 o.t.file) (.int .i64 o.t.fr) (.int .i64 o.t.en) (.bool o.t.bl) (.pointer r4) (.bool o.mark)
    have hB6 := below_eight hWc (Nat.le_refl _) (.int .i64 o.t.kind) (.string o.t.text) (.int .i64 o.t.file) (.int .i64 o.t.fr) (.int .i64 o.t.en) (.bool o.t.bl) (.pointer r4) (.bool o.mark)
    have hr6 := hr4.keep ((set8_only wc W2.heap.size (.int .i64 o.t.kind) (.string o.t.text) (.int .i64 o.t.file) (.int .i64 o.t.fr) (.int .i64 o.t.en) (.bool o.t.bl) (.pointer r4) (.bool o.mark)).kept hN (by decide))
    clear hr4 hWc hold hW1 v0 v1 v2 v3 v4 v5 v6 v7 vf hN
    show Exit.then _ _ _ _ (set8 wc W2.heap.size (.int .i64 o.t.kind) (.string o.t.text) (.int .i64 o.t.file) (.int .i64 o.t.fr) (.int .i64 o.t.en) (.bool o.t.bl) (.pointer r4) (.bool o.mark))
    replace hB6 : Below W2.heap.size W2 (set8 wc W2.heap.size (.int .i64 o.t.kind) (.string o.t.text) (.int .i64 o.t.file) (.int .i64 o.t.fr) (.int .i64 o.t.en) (.bool o.t.bl) (.pointer r4) (.bool o.mark)) := hB6
    have hW0 := HW0.out
    generalize set8 wc W2.heap.size (.int .i64 o.t.kind) (.string o.t.text) (.int .i64 o.t.file) (.int .i64 o.t.fr) (.int .i64 o.t.en) (.bool o.t.bl) (.pointer r4) (.bool o.mark) = W6 at hk6 hB6 hr6 ⊢
    generalize W2.heap.size = T6 at hk6 ⊢
    obtain ⟨b0, b1, b2, b3, b4, b5, b6, b7, -⟩ := box8_cells hk6
    obtain ⟨y0, y1, y2, y3, y4, y5, y6, y7, y8, -⟩ := HS0.out W6 hB6
    have hfs := HS2.out.below hB6
    obtain ⟨g', cap', pl', cs2, cur2, he2, -, -, -, -, -, hrow2, hcs2, hg2, hfz2, -⟩ := hfs.row.last
    cases he2
    have hz0 := hfz2 (i.length * 8)
    have hz1 := hfz2 (i.length * 8 + 1)
    have hz2 := hfz2 (i.length * 8 + 2)
    have hz3 := hfz2 (i.length * 8 + 3)
    have hz4 := hfz2 (i.length * 8 + 4)
    have hz5 := hfz2 (i.length * 8 + 5)
    have hz6 := hfz2 (i.length * 8 + 6)
    have hz7 := hfz2 (i.length * 8 + 7)
    have HSET := Lib.hid ((Fs.setLast (y := o) hfs.blk hfs.hn hrow2 hcs2 hg2 hr6).below ((Below.refl _ _).drew))
    have HBL := Lib.hid ((put8_below (o := i.length * 8) (HBS.out.trans (hB6.mono hW0)) hng (.int .i64 o.t.kind) (.string o.t.text) (.int .i64 o.t.file) (.int .i64 o.t.fr) (.int .i64 o.t.en) (.bool o.t.bl) (.pointer r4) (.bool o.mark)).drew)
    clear hrow2 hcs2 hg2 hfz2 hfs hk6 hB6 hr6 hW0
    go_wp2_with fail
    go_region
    go_wp2_with fail
    refine bodyPost_ret (v := .int .i64 e) (by simp [results, Tryz.results97, go_sem]) rfl ?_
    rw [HRR.out]
    by_cases he : e = 0
    · rw [if_pos he]
      exact ⟨by rw [he], ⟨_, HSET.out⟩, HBL.out⟩
    · rw [if_neg he]
      exact ⟨rfl, he, HBL.out⟩
end Go.Proofs.YtlepnafgcmeimaaGreatDoor

/- What is proved: what add does. -/
namespace Go.Proofs.YtlepnafgcmeimaaGreatDoor
open Go.RowKit Go.Shelf
open Ep (HT)

theorem Ep.add_len {f f' : Ep.Fl} {t : HT} (h : Ep.add f t = some (.ok f')) (hl : f.out.length ≤ 4000) : f'.out.length ≤ 4000 := by
  have key : ∀ l, f.out.getLast? = some l → f.out.dropLast.length + 1 = f.out.length := fun l hg => by
    rw [List.length_dropLast]
    cases ho : f.out with
    | nil => rw [ho] at hg; cases hg
    | cons a b => simp
  unfold Ep.add at h
  split at h
  · rename_i l hg
    have := key l hg
    split at h
    · split at h
      · cases h
      · split at h
        · injection h with h; injection h with h; subst h; simp; omega
        · injection h with h; cases h
    · split at h
      · injection h with h; injection h with h; subst h; simp; omega
      · unfold Ep.app at h
        split at h
        · injection h with h; injection h with h; subst h; simp; omega
        · cases h
  · unfold Ep.app at h
    split at h
    · injection h with h; injection h with h; subst h; simp; omega
    · cases h

theorem Ep.app_some {f : Ep.Fl} {t : HT} {r : Except Int Ep.Fl} (h : Ep.app f t = some r) : f.out.length < 4000 ∧ r = .ok ⟨f.out ++ [t], f.gl⟩ := by
  unfold Ep.app at h
  split at h
  · rename_i hlt
    injection h with h
    exact ⟨hlt, h.symm⟩
  · cases h

set_option maxRecDepth 100000 in
set_option maxHeartbeats 4000000 in
theorem eadd_any (n fb : Nat) (ov : Value) (f : Ep.Fl) (t : HT) (p : Option Addr) (w : World) (hG : Glob w) (h : Fs w n fb ov f) (hp : HidP w p t.hd) (hn1 : 1 < n) (hnw : n ≤ w.heap.size) (hl : f.out.length ≤ 4000) (r : Except Int Ep.Fl) (hr : Ep.add f t = some r) :
    Calls Tryz.prog 97 #[.pointer (some ⟨fb, 0, none⟩), htAgg t p] w (AddPost n fb w r) := by
  have hA : Below w.heap.size w (w.alloc (.cells #[.int .i64 t.t.kind, .string t.t.text, .int .i64 t.t.file, .int .i64 t.t.fr, .int .i64 t.t.en, .bool t.t.bl, .pointer p, .bool t.mark] 92)) := (Below.refl _ _).alloc (Nat.le_refl _) _
  have hbx : (w.alloc (.cells #[.int .i64 t.t.kind, .string t.t.text, .int .i64 t.t.file, .int .i64 t.t.fr, .int .i64 t.t.en, .bool t.t.bl, .pointer p, .bool t.mark] 92)).heap[w.heap.size]? = some (boxHt t p) := heap_alloc_new w _
  have h1 := h.below hA
  have hp1 := hp.keep (Kept.of_below hA _)
  have hB1 : Below n w (w.alloc (.cells #[.int .i64 t.t.kind, .string t.t.text, .int .i64 t.t.file, .int .i64 t.t.fr, .int .i64 t.t.en, .bool t.t.bl, .pointer p, .bool t.mark] 92)) := hA.mono hnw
  have hn2 : n ≤ (w.alloc (.cells #[.int .i64 t.t.kind, .string t.t.text, .int .i64 t.t.file, .int .i64 t.t.fr, .int .i64 t.t.en, .bool t.t.bl, .pointer p, .bool t.mark] 92)).heap.size := by simp; omega
  unfold htAgg
  go_enter Tryz.func97, Tryz.ntmps97
  show Code.wp Tryz.prog (secs 0 addBody) _ _ _
  refine wp_sec 0 addBody rfl ?_
  conv => arg 2; whnf
  have HBX := Lib.hid hbx
  have H1 := Lib.hid h1
  have HP1 := Lib.hid hp1
  have HB1 := Lib.hid hB1
  have HN2 := Lib.hid hn2
  have HR := Lib.hid hr
  clear hA hbx h1 hp1 hB1 hn2 hr h hp
  go_wp2_with fail
  have hr := HR.out
  generalize (w.alloc (.cells #[.int .i64 t.t.kind, .string t.t.text, .int .i64 t.t.file, .int .i64 t.t.fr, .int .i64 t.t.en, .bool t.t.bl, .pointer p, .bool t.mark] 92)) = W1 at HBX H1 HP1 HB1 HN2 ⊢
  unfold Ep.add at hr
  cases hlast : f.out.getLast? with
  | none =>
    rw [hlast] at hr
    obtain ⟨hlt, rfl⟩ := Ep.app_some hr
    refine add_end w W1 n fb w.heap.size ov f t p _ _ _ _ _ _ _ _ _ _ _ _ _ _ _ _ _ _ _ _ _ _ _ _ _ _ _ _ _ _ _ _ _ _ _ _ _ _ _ _ _ _ _ _ _ _ _ _ _ _ _ _ _ _ _ _ _ _ _ _ _ _ _ _ _ _ _ _ _ _ _ _ _ _ _ H1.out HBX.out HP1.out HB1.out HN2.out hlt (.inl ?_)
    cases ho : f.out with
    | nil => rfl
    | cons a b => rw [ho] at hlast; simp at hlast
  | some l =>
    rw [hlast] at hr
    dsimp only at hr
    obtain ⟨i, hi⟩ : ∃ i, f.out = i ++ [l] := ⟨f.out.dropLast, by
      cases ho : f.out with
      | nil => rw [ho] at hlast; cases hlast
      | cons a b =>
        rw [← ho]
        have hne : f.out ≠ [] := by rw [ho]; simp
        rw [List.getLast?_eq_some_getLast hne] at hlast
        injection hlast with hlast
        rw [← hlast]
        exact (List.dropLast_concat_getLast hne).symm⟩
    obtain ⟨out, gl⟩ := f
    dsimp only at hi hr hl hlast H1
    subst hi
    rw [List.dropLast_concat] at hr
    cases gl with
    | true =>
      rw [if_pos rfl] at hr
      cases hpo : Ep.pasted l t with
      | none => rw [hpo] at hr; cases hr
      | some oe =>
        obtain ⟨o, e⟩ := oe
        rw [hpo] at hr
        dsimp only at hr
        refine add_glue w W1 n fb w.heap.size ov i l t p _ _ _ _ _ _ _ _ _ _ _ _ _ _ _ _ _ _ _ _ _ _ _ _ _ _ _ _ _ _ _ _ _ _ _ _ _ _ _ _ _ _ _ _ _ _ _ _ _ _ _ _ _ _ _ _ _ _ _ _ _ _ _ _ _ _ _ _ _ _ _ _ _ _ _ H1.out HBX.out HP1.out HB1.out HN2.out (by omega) hG hn1 o e hpo r ?_
        split at hr
        · rename_i h0
          injection hr with hr
          rw [if_pos h0, hr]
        · rename_i h0
          injection hr with hr
          rw [if_neg h0, hr]
    | false =>
      rw [if_neg (by decide)] at hr
      cases hm : l.mark with
      | true =>
        rw [hm, if_pos rfl] at hr
        injection hr with hr
        rw [← hr]
        exact add_mark w W1 n fb w.heap.size ov i l t p _ _ _ _ _ _ _ _ _ _ _ _ _ _ _ _ _ _ _ _ _ _ _ _ _ _ _ _ _ _ _ _ _ _ _ _ _ _ _ _ _ _ _ _ _ _ _ _ _ _ _ _ _ _ _ _ _ _ _ _ _ _ _ _ _ _ _ _ _ _ _ _ _ _ _ H1.out HBX.out HP1.out HB1.out HN2.out (by omega) hm
      | false =>
        rw [hm, if_neg (by decide)] at hr
        obtain ⟨hlt, rfl⟩ := Ep.app_some hr
        exact add_end w W1 n fb w.heap.size ov ⟨i ++ [l], false⟩ t p _ _ _ _ _ _ _ _ _ _ _ _ _ _ _ _ _ _ _ _ _ _ _ _ _ _ _ _ _ _ _ _ _ _ _ _ _ _ _ _ _ _ _ _ _ _ _ _ _ _ _ _ _ _ _ _ _ _ _ _ _ _ _ _ _ _ _ _ _ _ _ _ _ _ _ H1.out HBX.out HP1.out HB1.out HN2.out hlt (.inr ⟨i, l, rfl, rfl, hm⟩)
end Go.Proofs.YtlepnafgcmeimaaGreatDoor

/- What is proved: what list adds. -/
namespace Go.Proofs.YtlepnafgcmeimaaGreatDoor
open Go.RowKit Go.Shelf
open Ep (HT)

theorem Ep.come_get {l : List HT} {k : Nat} {x : HT} (b : Bool) (h : l[k]? = some x) : (Ep.come l b).drop k = (⟨if k = 0 then Ep.blK x.t b else x.t, x.hd, x.mark⟩ : HT) :: (Ep.come l b).drop (k + 1) := by
  cases l with
  | nil => simp at h
  | cons y r =>
    cases k with
    | zero =>
      simp only [List.getElem?_cons_zero, Option.some.injEq] at h
      subst h
      simp [Ep.come]
    | succ k =>
      simp only [List.getElem?_cons_succ] at h
      have hlt := (List.getElem?_eq_some_iff.1 h)
      obtain ⟨hlt, he⟩ := hlt
      simp only [Ep.come, List.drop_succ_cons]
      rw [List.drop_eq_getElem_cons hlt, he]
      simp
theorem Ep.come_length (l : List HT) (b : Bool) : (Ep.come l b).length = l.length := by cases l <;> rfl
theorem Ep.addAll_cons {t : HT} {l : List HT} {f : Ep.Fl} {r : Except Int Ep.Fl} (h : Ep.addAll (t :: l) f = some r) : (∃ e, Ep.add f t = some (.error e) ∧ r = .error e) ∨ ∃ f', Ep.add f t = some (.ok f') ∧ Ep.addAll l f' = some r := by
  unfold Ep.addAll at h
  split at h
  · rename_i f' ha
    exact .inr ⟨f', ha, h⟩
  · rename_i hno
    cases hr : r with
    | error e => rw [hr] at h; exact .inl ⟨e, h, rfl⟩
    | ok f' => rw [hr] at h; exact absurd h (hno f')

set_option maxRecDepth 100000 in
set_option maxHeartbeats 4000000 in
theorem elist_any (n fb : Nat) (f : Ep.Fl) (v : Value) (l : List HT) (b : Bool) (w0 w : World) (hn : w0.heap.size = n) (hG : Glob w0) (hv : Hs w0 v l) (h : ∃ ov, Fs w n fb ov f) (hB : Below n w0 w) (hl : l.length ≤ 1000000) (hf : f.out.length ≤ 4000) (r : Except Int Ep.Fl) (hr : Ep.addAll (Ep.come l b) f = some r) :
    Calls Tryz.prog 98 #[.pointer (some ⟨fb, 0, none⟩), v, .bool b] w (AddPost n fb w r) := by
  obtain ⟨ad, cap, rfl, b1, b2⟩ := hv.form
  obtain ⟨L, hL⟩ : ∃ L, L = l.length := ⟨_, rfl⟩
  rw [← hL] at hl b1 hv ⊢
  have HL := Lib.hid hL
  have HV := Lib.hid hv
  have HH := Lib.hid h
  have HBW := Lib.hid hB
  have HR := Lib.hid hr
  have HF := Lib.hid hf
  have HG := Lib.hid hG
  have HN := Lib.hid hn
  clear hL hv h hB hr hf hG hn b1 b2
  go_enter Tryz.func98, Tryz.ntmps98
  go_wp2_with fail
  go_loopw [7] (fun a wr => ∃ (k : Nat) (f' : Ep.Fl), a = .int .i64 k ∧ k ≤ L ∧ Ep.addAll ((Ep.come l b).drop k) f' = some r ∧ (∃ ov, Fs wr n fb ov f') ∧ f'.out.length ≤ 4000 ∧ Below n w wr) (fun a _ => L - (intOf a).toNat)
  case atStart => exact ⟨0, f, rfl, Nat.zero_le _, HR.out, HH.out, HF.out, Below.refl _ _⟩
  case round =>
    obtain ⟨k, f', rfl, hk, hr, hfs, hf, hB⟩ := hrel
    by_cases hlt : k < L
    · obtain ⟨x, hx⟩ : ∃ x, l[k]? = some x := ⟨_, List.getElem?_eq_getElem (by rw [← HL.out]; exact hlt)⟩
      have hBW := HBW.out.trans hB
      have hGr := HG.out.below hBW (by have := HG.out.pos; rw [HN.out] at this; exact this)
      have hn1 : 1 < n := by have := HG.out.pos; rw [HN.out] at this; exact this
      have hnr : n ≤ wr.heap.size := by have := hBW.size; rw [HN.out] at this; exact this
      obtain ⟨g, o, rfl, -, ⟨d0, d1, d2, d3, d4, d5⟩, p, d6, d7, hp⟩ := hs_some (HV.out.below (show Below w0.heap.size w0 wr by rw [HN.out]; exact hBW)) hx
      obtain ⟨ov, hfs⟩ := hfs
      obtain ⟨fad, fcap, rfl, -, -⟩ := hfs.row.hs.form
      have c0 : wr.cell? ⟨fb, 0, none⟩ = some (.slice fad f'.out.length fcap) := (Lib.cell_of_heap hfs.blk 0).trans rfl
      rw [Ep.come_get b hx] at hr
      have hrr := Ep.addAll_cons hr
      have KT := Lib.hid (etooMany_no fb fad _ fcap wr c0 (by omega))
      have z1 : (0 : Int) ≤ k := by omega
      have z2 : (k : Int) < L := by omega
      have HRR := Lib.hid hrr
      have HFS := Lib.hid hfs
      have HFL := Lib.hid hf
      have HB := Lib.hid hB
      have HP := Lib.hid hp
      have HGR := Lib.hid hGr
      have HN1 := Lib.hid hn1
      have HNR := Lib.hid hnr
      obtain ⟨⟨kd, tx, fl, fr, en, bl⟩, hd, mk⟩ := x
      dsimp only at d0 d1 d2 d3 d4 d5 d6 d7 HRR HP
      clear hx hr hrr hfs hf hB hp hGr hn1 hnr hBW
      rcases Nat.eq_zero_or_pos k with rfl | hk0
      · simp only [Nat.zero_mul, Nat.add_zero] at d0 d1 d2 d3 d4 d5 d6 d7
        go_wp2_with fail
        have hA : Below wr.heap.size wr (wr.alloc (.cells #[.int .i64 kd, .string tx, .int .i64 fl, .int .i64 fr, .int .i64 en, .bool b, .pointer p, .bool mk] 92)) := (Below.refl _ _).alloc (Nat.le_refl _) _
        have hfs1 := HFS.out.below hA
        have hp1 := HP.out.keep (Kept.of_below hA _)
        have hg1 := HGR.out.later hA
        have hB1 := HB.out.trans (hA.mono HNR.out)
        have hn2 := Nat.le_trans HNR.out hA.size
        rcases HRR.out with ⟨e, ha, hre⟩ | ⟨f2, ha, hrest⟩
        · have HRE := Lib.hid hre
          refine (eadd_any n fb _ f' ⟨⟨kd, tx, fl, fr, en, b⟩, hd, mk⟩ p _ hg1 hfs1 hp1 HN1.out hn2 HFL.out (.error e) (by simpa [Ep.blK] using ha)).mono ?_
          rintro e4 w4 ⟨rfl, he0, hb4⟩
          have hb5 := hB1.trans hb4
          have HB5 := Lib.hid hb5
          clear hA hfs1 hp1 hg1 hB1 hn2 hb4 hb5 d0 d1 d2 d3 d4 d5 d6 d7 c0 hre
          have he1 : (e == 0) = false := by simpa using he0
          go_wp2_with fail
          go_ret
          rw [HRE.out]
          exact ⟨rfl, he0, HB5.out⟩
        · have HRE := Lib.hid hrest
          have hln := Ep.add_len ha HFL.out
          have HLN := Lib.hid hln
          refine (eadd_any n fb _ f' ⟨⟨kd, tx, fl, fr, en, b⟩, hd, mk⟩ p _ hg1 hfs1 hp1 HN1.out hn2 HFL.out (.ok f2) (by simpa [Ep.blK] using ha)).mono ?_
          rintro e4 w4 ⟨rfl, hfs4, hb4⟩
          have hb5 := hB1.trans hb4
          have HB5 := Lib.hid hb5
          have HFS4 := Lib.hid hfs4
          clear hA hfs1 hp1 hg1 hB1 hn2 hb4 hb5 d0 d1 d2 d3 d4 d5 d6 d7 c0 hrest hln hfs4
          go_wp2_with fail
          go_roundw
          case rel => exact ⟨1, f2, by go_num, by omega, HRE.out, HFS4.out, HLN.out, HB5.out⟩
          case measure => simp [intOf]; omega
      · have kne : ¬ k = 0 := by omega
        have kne2 : ¬ (k : Int) = 0 := by omega
        have kne3 : (0 : Int) < k := by omega
        go_wp2_with fail
        refine (KT.out).mono ?_
        rintro e4 w4 ⟨rfl, hw4⟩
        rw [hw4]
        clear hw4
        go_wp2_with fail
        have hA : Below wr.heap.size wr (wr.alloc (.cells #[.int .i64 kd, .string tx, .int .i64 fl, .int .i64 fr, .int .i64 en, .bool bl, .pointer p, .bool mk] 92)) := (Below.refl _ _).alloc (Nat.le_refl _) _
        have hfs1 := HFS.out.below hA
        have hp1 := HP.out.keep (Kept.of_below hA _)
        have hg1 := HGR.out.later hA
        have hB1 := HB.out.trans (hA.mono HNR.out)
        have hn2 := Nat.le_trans HNR.out hA.size
        rcases HRR.out with ⟨e, ha, hre⟩ | ⟨f2, ha, hrest⟩
        · have HRE := Lib.hid hre
          refine (eadd_any n fb _ f' ⟨⟨kd, tx, fl, fr, en, bl⟩, hd, mk⟩ p _ hg1 hfs1 hp1 HN1.out hn2 HFL.out (.error e) (by simpa [kne] using ha)).mono ?_
          rintro e4 w4 ⟨rfl, he0, hb4⟩
          have hb5 := hB1.trans hb4
          have HB5 := Lib.hid hb5
          clear hA hfs1 hp1 hg1 hB1 hn2 hb4 hb5 d0 d1 d2 d3 d4 d5 d6 d7 c0 hre
          have he1 : (e == 0) = false := by simpa using he0
          go_wp2_with fail
          go_ret
          rw [HRE.out]
          exact ⟨rfl, he0, HB5.out⟩
        · have HRE := Lib.hid hrest
          have hln := Ep.add_len ha HFL.out
          have HLN := Lib.hid hln
          refine (eadd_any n fb _ f' ⟨⟨kd, tx, fl, fr, en, bl⟩, hd, mk⟩ p _ hg1 hfs1 hp1 HN1.out hn2 HFL.out (.ok f2) (by simpa [kne] using ha)).mono ?_
          rintro e4 w4 ⟨rfl, hfs4, hb4⟩
          have hb5 := hB1.trans hb4
          have HB5 := Lib.hid hb5
          have HFS4 := Lib.hid hfs4
          clear hA hfs1 hp1 hg1 hB1 hn2 hb4 hb5 d0 d1 d2 d3 d4 d5 d6 d7 c0 hrest hln hfs4
          go_wp2_with fail
          go_roundw
          case rel => exact ⟨k + 1, f2, by go_num, by omega, HRE.out, HFS4.out, HLN.out, HB5.out⟩
          case measure => simp [intOf]; omega
    · obtain rfl : k = L := by omega
      have he : (Ep.come l b).drop k = [] := List.drop_eq_nil_of_le (by rw [Ep.come_length, ← HL.out]; exact Nat.le_refl _)
      rw [he] at hr
      injection hr with hr
      have HFS := Lib.hid hfs
      have HB := Lib.hid hB
      have HR2 := Lib.hid hr
      clear hfs hB hr he
      go_wp2_with fail
      go_ret
      rw [← HR2.out]
      exact ⟨rfl, HFS.out, HB.out⟩
end Go.Proofs.YtlepnafgcmeimaaGreatDoor

/- What is proved: what piece adds. -/
namespace Go.Proofs.YtlepnafgcmeimaaGreatDoor
open Go.RowKit Go.Shelf
open Ep (HT)

theorem Ep.addAll_len : ∀ {l : List HT} {f f' : Ep.Fl}, Ep.addAll l f = some (.ok f') → f.out.length ≤ 4000 → f'.out.length ≤ 4000
  | [], f, f', h, hl => by
    injection h with h; injection h with h; subst h; exact hl
  | t :: l, f, f', h, hl => by
    rcases Ep.addAll_cons h with ⟨e, _, he⟩ | ⟨f2, h1, h2⟩
    · cases he
    · exact Ep.addAll_len h2 (Ep.add_len h1 hl)
theorem Ep.piece_len {f f' : Ep.Fl} {p : Ep.Pc} {ags : List Ep.Arg} (h : Ep.piece f p ags = some (.ok f')) (hl : f.out.length ≤ 4000) : f'.out.length ≤ 4000 := by
  unfold Ep.piece at h
  split at h
  · split at h
    · exact Ep.add_len h hl
    · injection h with h; injection h with h; subst h; exact hl
  · split at h
    · cases h
    · exact Ep.add_len h hl
  · split at h
    · cases h
    · split at h
      · exact Ep.add_len h hl
      · exact Ep.addAll_len h hl
  · split at h
    · cases h
    · exact Ep.addAll_len h hl
  · exact Ep.add_len h hl

/-- An argument's cells. -/
def ArgAt (W : World) (g o : Nat) (a : Ep.Arg) : Prop := ∃ vr vf, W.cell? ⟨g, o, none⟩ = some vr ∧ Hs W vr a.raw ∧ W.cell? ⟨g, o + 1, none⟩ = some vf ∧ Hs W vf a.full ∧ KAt W g (o + 2) a.quoted
/-- The arguments lie in a row. -/
def Ags (W : World) (v : Value) (ags : List Ep.Arg) : Prop := ∃ ad cap, v = .slice ad ags.length cap ∧ ags.length ≤ cap ∧ cap ≤ maxLen ∧ ∀ (i : Nat) (a : Ep.Arg), ags[i]? = some a → ∃ g o, ad = some ⟨g, o, none⟩ ∧ ArgAt W g (o + i * 8) a
theorem ArgAt.below {W W' : World} {g o : Nat} {a : Ep.Arg} (h : ArgAt W g o a) (hb : Below W.heap.size W W') : ArgAt W' g o a := by
  obtain ⟨vr, vf, h1, h2, h3, h4, k0, k1, k2, k3, k4, k5⟩ := h
  have hlt : g < W.heap.size := lt_of_cell h1
  have q : ∀ (j : Nat) (u : Value), W.cell? ⟨g, j, none⟩ = some u → W'.cell? ⟨g, j, none⟩ = some u := fun j u hu => (hb.cell (p := ⟨g, j, none⟩) hlt).trans hu
  exact ⟨vr, vf, q _ _ h1, h2.below hb, q _ _ h3, h4.below hb, q _ _ k0, q _ _ k1, q _ _ k2, q _ _ k3, q _ _ k4, q _ _ k5⟩
theorem Ags.below {W W' : World} {v : Value} {ags : List Ep.Arg} (h : Ags W v ags) (hb : Below W.heap.size W W') : Ags W' v ags := by
  obtain ⟨ad, cap, e, h1, h2, h3⟩ := h
  refine ⟨ad, cap, e, h1, h2, fun i a ha => ?_⟩
  obtain ⟨g, o, e2, h4⟩ := h3 i a ha
  exact ⟨g, o, e2, h4.below hb⟩

noncomputable def pieceBodyglue : Code := Tryz.f81.body.getD .skip

set_option maxRecDepth 100000 in
set_option maxHeartbeats 4000000 in
theorem piece_glue (n fb : Nat) (f : Ep.Fl) (p : Ep.Pc) (va : Value) (ags : List Ep.Arg) (w0 w : World) (hn : w0.heap.size = n) (hG : Glob w0) (ha : Ags w0 va ags) (h : ∃ ov, Fs w n fb ov f) (hB : Below n w0 w)
    (_ : ags.length ≤ 1000000) (hf : f.out.length ≤ 4000) (r : Except Int Ep.Fl) (hgl : f.gl = false) (hw : p.way = 1) (hr : r = .ok ⟨f.out, true⟩) :
    Calls Tryz.prog 81 #[.pointer (some ⟨fb, 0, none⟩), pcV p, va] w (AddPost n fb w r) := by
  have hnw : n ≤ w.heap.size := by have := hB.size; omega
  have hn1 : 1 < n := by have := hG.pos; omega
  obtain ⟨⟨kd, tx, fl, fr, en, bl⟩, way, par⟩ := p
  unfold pcV
  dsimp only at *
  subst hw
  have hA : Below w.heap.size w (w.alloc (.cells #[.int .i64 kd, .string tx, .int .i64 fl, .int .i64 fr, .int .i64 en, .bool bl, .int .i64 ((1 : Nat) : Int), .int .i64 (par : Int)] 149)) := (Below.refl _ _).alloc (Nat.le_refl _) _
  have hbx := heap_alloc_new w (.cells #[.int .i64 kd, .string tx, .int .i64 fl, .int .i64 fr, .int .i64 en, .bool bl, .int .i64 ((1 : Nat) : Int), .int .i64 (par : Int)] 149)
  have hB1 : Below n w (w.alloc (.cells #[.int .i64 kd, .string tx, .int .i64 fl, .int .i64 fr, .int .i64 en, .bool bl, .int .i64 ((1 : Nat) : Int), .int .i64 (par : Int)] 149)) := hA.mono hnw
  have h1 := h.imp fun ov h => h.below hA
  have hn2 : n ≤ (w.alloc (.cells #[.int .i64 kd, .string tx, .int .i64 fl, .int .i64 fr, .int .i64 en, .bool bl, .int .i64 ((1 : Nat) : Int), .int .i64 (par : Int)] 149)).heap.size := Nat.le_trans hnw hA.size
  have HBX := Lib.hid hbx
  have HB1 := Lib.hid hB1
  have H1 := Lib.hid h1
  have HA0 := Lib.hid ha
  have HG := Lib.hid hG
  have HB := Lib.hid hB
  have HF := Lib.hid hf
  have HN := Lib.hid hn
  have HN1 := Lib.hid hn1
  have HN2 := Lib.hid hn2
  clear hA hbx hB1 h1 ha hG hB hf hn hn1 hn2 h hnw 
  go_enter Tryz.func81, Tryz.ntmps81
  show Code.wp Tryz.prog (secs 0 pieceBodyglue) _ _ _
  refine wp_sec 0 pieceBodyglue rfl ?_
  conv => arg 2; whnf
  go_wp2_with fail
  generalize (w.alloc (.cells #[.int .i64 kd, .string tx, .int .i64 fl, .int .i64 fr, .int .i64 en, .bool bl, .int .i64 ((1 : Nat) : Int), .int .i64 (par : Int)] 149)) = W1 at HBX HB1 H1 HN2 ⊢
  obtain ⟨b0, b1, b2, b3, b4, b5, b6, b7, -⟩ := box8_cells HBX.out
  obtain ⟨ov, h1⟩ := H1.out
  have g0 : W1.cell? ⟨fb, 0, none⟩ = some ov := (Lib.cell_of_heap h1.blk 0).trans rfl
  have g1 : W1.cell? ⟨fb, 1, none⟩ = some (.bool f.gl) := (Lib.cell_of_heap h1.blk 1).trans rfl
  have gf : W1.frozen? ⟨fb, 1, none⟩ = false := by simp [World.frozen?, h1.blk]
  have HH := Lib.hid h1
  clear h1
  rw [hgl] at g1
  refine wp_sec 1 pieceBodyglue rfl ?_
  conv => arg 2; whnf
  go_wp2_with fail
  exact bodyPost_ret (v := .int .i64 0) (by simp [results, Tryz.results81, go_sem]) rfl (by rw [hr]; exact ⟨rfl, ⟨ov, HH.out.setGl true⟩, HB1.out.setCell HH.out.hn _⟩)


noncomputable def pieceBodytwice : Code := Tryz.f81.body.getD .skip

set_option maxRecDepth 100000 in
set_option maxHeartbeats 4000000 in
theorem piece_twice (n fb : Nat) (f : Ep.Fl) (p : Ep.Pc) (va : Value) (ags : List Ep.Arg) (w0 w : World) (hn : w0.heap.size = n) (hG : Glob w0) (ha : Ags w0 va ags) (h : ∃ ov, Fs w n fb ov f) (hB : Below n w0 w)
    (_ : ags.length ≤ 1000000) (hf : f.out.length ≤ 4000) (r : Except Int Ep.Fl) (hgl : f.gl = true) (hw : p.way = 1) (hr : Ep.add f (Ep.HT.of p.t) = some r) :
    Calls Tryz.prog 81 #[.pointer (some ⟨fb, 0, none⟩), pcV p, va] w (AddPost n fb w r) := by
  have hnw : n ≤ w.heap.size := by have := hB.size; omega
  have hn1 : 1 < n := by have := hG.pos; omega
  obtain ⟨⟨kd, tx, fl, fr, en, bl⟩, way, par⟩ := p
  unfold pcV
  dsimp only at *
  subst hw
  have hA : Below w.heap.size w (w.alloc (.cells #[.int .i64 kd, .string tx, .int .i64 fl, .int .i64 fr, .int .i64 en, .bool bl, .int .i64 ((1 : Nat) : Int), .int .i64 (par : Int)] 149)) := (Below.refl _ _).alloc (Nat.le_refl _) _
  have hbx := heap_alloc_new w (.cells #[.int .i64 kd, .string tx, .int .i64 fl, .int .i64 fr, .int .i64 en, .bool bl, .int .i64 ((1 : Nat) : Int), .int .i64 (par : Int)] 149)
  have hB1 : Below n w (w.alloc (.cells #[.int .i64 kd, .string tx, .int .i64 fl, .int .i64 fr, .int .i64 en, .bool bl, .int .i64 ((1 : Nat) : Int), .int .i64 (par : Int)] 149)) := hA.mono hnw
  have h1 := h.imp fun ov h => h.below hA
  have hn2 : n ≤ (w.alloc (.cells #[.int .i64 kd, .string tx, .int .i64 fl, .int .i64 fr, .int .i64 en, .bool bl, .int .i64 ((1 : Nat) : Int), .int .i64 (par : Int)] 149)).heap.size := Nat.le_trans hnw hA.size
  have HBX := Lib.hid hbx
  have HB1 := Lib.hid hB1
  have H1 := Lib.hid h1
  have HA0 := Lib.hid ha
  have HG := Lib.hid hG
  have HB := Lib.hid hB
  have HF := Lib.hid hf
  have HN := Lib.hid hn
  have HN1 := Lib.hid hn1
  have HN2 := Lib.hid hn2
  have HR := Lib.hid hr
  clear hA hbx hB1 h1 ha hG hB hf hn hn1 hn2 h hnw hr
  go_enter Tryz.func81, Tryz.ntmps81
  show Code.wp Tryz.prog (secs 0 pieceBodytwice) _ _ _
  refine wp_sec 0 pieceBodytwice rfl ?_
  conv => arg 2; whnf
  go_wp2_with fail
  generalize (w.alloc (.cells #[.int .i64 kd, .string tx, .int .i64 fl, .int .i64 fr, .int .i64 en, .bool bl, .int .i64 ((1 : Nat) : Int), .int .i64 (par : Int)] 149)) = W1 at HBX HB1 H1 HN2 ⊢
  obtain ⟨b0, b1, b2, b3, b4, b5, b6, b7, -⟩ := box8_cells HBX.out
  obtain ⟨ov, h1⟩ := H1.out
  have g0 : W1.cell? ⟨fb, 0, none⟩ = some ov := (Lib.cell_of_heap h1.blk 0).trans rfl
  have g1 : W1.cell? ⟨fb, 1, none⟩ = some (.bool f.gl) := (Lib.cell_of_heap h1.blk 1).trans rfl
  have gf : W1.frozen? ⟨fb, 1, none⟩ = false := by simp [World.frozen?, h1.blk]
  have HH := Lib.hid h1
  clear h1
  rw [hgl] at g1
  refine wp_sec 1 pieceBodytwice rfl ?_
  conv => arg 2; whnf
  go_wp2_with fail
  conv => arg 2; whnf
  go_wp2_with fail
  cases r with
  | error e =>
    refine (eadd_any n fb ov f (Ep.HT.of ⟨kd, tx, fl, fr, en, bl⟩) none W1 (HG.out.below (HB.out.trans HB1.out) HN1.out) HH.out (HidP.zero _) HN1.out HN2.out HF.out _ HR.out).mono ?_
    rintro e4 w4 ⟨rfl, he0, hb4⟩
    have HB5 := Lib.hid (HB1.out.trans hb4)
    clear hb4
    go_wp2_with fail
    exact bodyPost_ret (v := .int .i64 e) (by simp [results, Tryz.results81, go_sem]) rfl ⟨rfl, he0, HB5.out⟩
  | ok f2 =>
    refine (eadd_any n fb ov f (Ep.HT.of ⟨kd, tx, fl, fr, en, bl⟩) none W1 (HG.out.below (HB.out.trans HB1.out) HN1.out) HH.out (HidP.zero _) HN1.out HN2.out HF.out _ HR.out).mono ?_
    rintro e4 w4 ⟨rfl, hfs4, hb4⟩
    have HB5 := Lib.hid (HB1.out.trans hb4)
    have HF5 := Lib.hid hfs4
    clear hb4 hfs4
    go_wp2_with fail
    exact bodyPost_ret (v := .int .i64 0) (by simp [results, Tryz.results81, go_sem]) rfl ⟨rfl, HF5.out, HB5.out⟩


noncomputable def pieceBodyself : Code := Tryz.f81.body.getD .skip

set_option maxRecDepth 100000 in
set_option maxHeartbeats 4000000 in
theorem piece_self (n fb : Nat) (f : Ep.Fl) (p : Ep.Pc) (va : Value) (ags : List Ep.Arg) (w0 w : World) (hn : w0.heap.size = n) (hG : Glob w0) (ha : Ags w0 va ags) (h : ∃ ov, Fs w n fb ov f) (hB : Below n w0 w)
    (_ : ags.length ≤ 1000000) (hf : f.out.length ≤ 4000) (r : Except Int Ep.Fl) (hw : p.way = 0) (hr : Ep.add f (Ep.HT.of p.t) = some r) :
    Calls Tryz.prog 81 #[.pointer (some ⟨fb, 0, none⟩), pcV p, va] w (AddPost n fb w r) := by
  have hnw : n ≤ w.heap.size := by have := hB.size; omega
  have hn1 : 1 < n := by have := hG.pos; omega
  obtain ⟨⟨kd, tx, fl, fr, en, bl⟩, way, par⟩ := p
  unfold pcV
  dsimp only at *
  subst hw
  have hA : Below w.heap.size w (w.alloc (.cells #[.int .i64 kd, .string tx, .int .i64 fl, .int .i64 fr, .int .i64 en, .bool bl, .int .i64 ((0 : Nat) : Int), .int .i64 (par : Int)] 149)) := (Below.refl _ _).alloc (Nat.le_refl _) _
  have hbx := heap_alloc_new w (.cells #[.int .i64 kd, .string tx, .int .i64 fl, .int .i64 fr, .int .i64 en, .bool bl, .int .i64 ((0 : Nat) : Int), .int .i64 (par : Int)] 149)
  have hB1 : Below n w (w.alloc (.cells #[.int .i64 kd, .string tx, .int .i64 fl, .int .i64 fr, .int .i64 en, .bool bl, .int .i64 ((0 : Nat) : Int), .int .i64 (par : Int)] 149)) := hA.mono hnw
  have h1 := h.imp fun ov h => h.below hA
  have hn2 : n ≤ (w.alloc (.cells #[.int .i64 kd, .string tx, .int .i64 fl, .int .i64 fr, .int .i64 en, .bool bl, .int .i64 ((0 : Nat) : Int), .int .i64 (par : Int)] 149)).heap.size := Nat.le_trans hnw hA.size
  have HBX := Lib.hid hbx
  have HB1 := Lib.hid hB1
  have H1 := Lib.hid h1
  have HA0 := Lib.hid ha
  have HG := Lib.hid hG
  have HB := Lib.hid hB
  have HF := Lib.hid hf
  have HN := Lib.hid hn
  have HN1 := Lib.hid hn1
  have HN2 := Lib.hid hn2
  have HR := Lib.hid hr
  clear hA hbx hB1 h1 ha hG hB hf hn hn1 hn2 h hnw hr
  go_enter Tryz.func81, Tryz.ntmps81
  show Code.wp Tryz.prog (secs 0 pieceBodyself) _ _ _
  refine wp_sec 0 pieceBodyself rfl ?_
  conv => arg 2; whnf
  go_wp2_with fail
  generalize (w.alloc (.cells #[.int .i64 kd, .string tx, .int .i64 fl, .int .i64 fr, .int .i64 en, .bool bl, .int .i64 ((0 : Nat) : Int), .int .i64 (par : Int)] 149)) = W1 at HBX HB1 H1 HN2 ⊢
  obtain ⟨b0, b1, b2, b3, b4, b5, b6, b7, -⟩ := box8_cells HBX.out
  obtain ⟨ov, h1⟩ := H1.out
  have g0 : W1.cell? ⟨fb, 0, none⟩ = some ov := (Lib.cell_of_heap h1.blk 0).trans rfl
  have g1 : W1.cell? ⟨fb, 1, none⟩ = some (.bool f.gl) := (Lib.cell_of_heap h1.blk 1).trans rfl
  have gf : W1.frozen? ⟨fb, 1, none⟩ = false := by simp [World.frozen?, h1.blk]
  have HH := Lib.hid h1
  clear h1
  refine wp_sec 1 pieceBodyself rfl ?_
  conv => arg 2; whnf
  go_wp2_with fail
  conv => arg 2; whnf
  go_wp2_with fail
  cases r with
  | error e =>
    refine (eadd_any n fb ov f (Ep.HT.of ⟨kd, tx, fl, fr, en, bl⟩) none W1 (HG.out.below (HB.out.trans HB1.out) HN1.out) HH.out (HidP.zero _) HN1.out HN2.out HF.out _ HR.out).mono ?_
    rintro e4 w4 ⟨rfl, he0, hb4⟩
    have HB5 := Lib.hid (HB1.out.trans hb4)
    clear hb4
    go_wp2_with fail
    exact bodyPost_ret (v := .int .i64 e) (by simp [results, Tryz.results81, go_sem]) rfl ⟨rfl, he0, HB5.out⟩
  | ok f2 =>
    refine (eadd_any n fb ov f (Ep.HT.of ⟨kd, tx, fl, fr, en, bl⟩) none W1 (HG.out.below (HB.out.trans HB1.out) HN1.out) HH.out (HidP.zero _) HN1.out HN2.out HF.out _ HR.out).mono ?_
    rintro e4 w4 ⟨rfl, hfs4, hb4⟩
    have HB5 := Lib.hid (HB1.out.trans hb4)
    have HF5 := Lib.hid hfs4
    clear hb4 hfs4
    go_wp2_with fail
    exact bodyPost_ret (v := .int .i64 0) (by simp [results, Tryz.results81, go_sem]) rfl ⟨rfl, HF5.out, HB5.out⟩


noncomputable def pieceBodyempty : Code := Tryz.f81.body.getD .skip

set_option maxRecDepth 100000 in
set_option maxHeartbeats 4000000 in
theorem piece_empty (n fb : Nat) (f : Ep.Fl) (p : Ep.Pc) (va : Value) (ags : List Ep.Arg) (w0 w : World) (hn : w0.heap.size = n) (hG : Glob w0) (ha : Ags w0 va ags) (h : ∃ ov, Fs w n fb ov f) (hB : Below n w0 w)
    (_ : ags.length ≤ 1000000) (hf : f.out.length ≤ 4000) (r : Except Int Ep.Fl) (a : Ep.Arg) (hpa : ags[p.par]? = some a) (hw : p.way = 3) (he : a.raw = []) (hr : Ep.add f (Ep.markOf p.t.bl) = some r) :
    Calls Tryz.prog 81 #[.pointer (some ⟨fb, 0, none⟩), pcV p, va] w (AddPost n fb w r) := by
  have hnw : n ≤ w.heap.size := by have := hB.size; omega
  have hn1 : 1 < n := by have := hG.pos; omega
  obtain ⟨⟨kd, tx, fl, fr, en, bl⟩, way, par⟩ := p
  unfold pcV
  dsimp only at *
  subst hw
  have hA : Below w.heap.size w (w.alloc (.cells #[.int .i64 kd, .string tx, .int .i64 fl, .int .i64 fr, .int .i64 en, .bool bl, .int .i64 ((3 : Nat) : Int), .int .i64 (par : Int)] 149)) := (Below.refl _ _).alloc (Nat.le_refl _) _
  have hbx := heap_alloc_new w (.cells #[.int .i64 kd, .string tx, .int .i64 fl, .int .i64 fr, .int .i64 en, .bool bl, .int .i64 ((3 : Nat) : Int), .int .i64 (par : Int)] 149)
  have hB1 : Below n w (w.alloc (.cells #[.int .i64 kd, .string tx, .int .i64 fl, .int .i64 fr, .int .i64 en, .bool bl, .int .i64 ((3 : Nat) : Int), .int .i64 (par : Int)] 149)) := hA.mono hnw
  have h1 := h.imp fun ov h => h.below hA
  have hn2 : n ≤ (w.alloc (.cells #[.int .i64 kd, .string tx, .int .i64 fl, .int .i64 fr, .int .i64 en, .bool bl, .int .i64 ((3 : Nat) : Int), .int .i64 (par : Int)] 149)).heap.size := Nat.le_trans hnw hA.size
  have HBX := Lib.hid hbx
  have HB1 := Lib.hid hB1
  have H1 := Lib.hid h1
  have HA0 := Lib.hid ha
  have HG := Lib.hid hG
  have HB := Lib.hid hB
  have HF := Lib.hid hf
  have HN := Lib.hid hn
  have HN1 := Lib.hid hn1
  have HN2 := Lib.hid hn2
  have HR := Lib.hid hr
  have HPA := Lib.hid hpa
  clear hA hbx hB1 h1 ha hG hB hf hn hn1 hn2 h hnw hr hpa
  go_enter Tryz.func81, Tryz.ntmps81
  show Code.wp Tryz.prog (secs 0 pieceBodyempty) _ _ _
  refine wp_sec 0 pieceBodyempty rfl ?_
  conv => arg 2; whnf
  go_wp2_with fail
  generalize (w.alloc (.cells #[.int .i64 kd, .string tx, .int .i64 fl, .int .i64 fr, .int .i64 en, .bool bl, .int .i64 ((3 : Nat) : Int), .int .i64 (par : Int)] 149)) = W1 at HBX HB1 H1 HN2 ⊢
  obtain ⟨b0, b1, b2, b3, b4, b5, b6, b7, -⟩ := box8_cells HBX.out
  obtain ⟨ov, h1⟩ := H1.out
  have g0 : W1.cell? ⟨fb, 0, none⟩ = some ov := (Lib.cell_of_heap h1.blk 0).trans rfl
  have g1 : W1.cell? ⟨fb, 1, none⟩ = some (.bool f.gl) := (Lib.cell_of_heap h1.blk 1).trans rfl
  have gf : W1.frozen? ⟨fb, 1, none⟩ = false := by simp [World.frozen?, h1.blk]
  have HH := Lib.hid h1
  clear h1
  have hpl : par < ags.length := (List.getElem?_eq_some_iff.1 HPA.out).1
  have z1 : (0 : Int) ≤ par := by omega
  have z2 : (par : Int) < ags.length := by omega
  obtain ⟨aad, acap, rfl, -, -, hget⟩ := HA0.out
  obtain ⟨g, o, rfl, vr, vf, e0, hr0, e1, hf0, q0, q1, q2, q3, q4, q5⟩ := hget par a HPA.out
  have hbb := HB.out.trans HB1.out
  have hgl0 : g < n := by have := lt_of_cell e0; rw [HN.out] at this; exact this
  have q : ∀ (j : Nat) (u : Value), w0.cell? ⟨g, j, none⟩ = some u → W1.cell? ⟨g, j, none⟩ = some u := fun j u hu => (hbb.cell (p := ⟨g, j, none⟩) hgl0).trans hu
  replace e0 := q _ _ e0
  replace e1 := q _ _ e1
  replace q0 := q _ _ q0
  replace q1 := q _ _ q1
  replace q2 := q _ _ q2
  replace q3 := q _ _ q3
  replace q4 := q _ _ q4
  replace q5 := q _ _ q5
  have HR0 := Lib.hid hr0
  have HF0 := Lib.hid hf0
  obtain ⟨rad, rcap, rfl, -, -⟩ := hr0.form
  obtain ⟨fad, fcap, rfl, -, -⟩ := hf0.form
  clear hget q hr0 hf0 hbb hgl0
  have hrl : a.raw.length = 0 := by rw [he]; rfl
  rw [hrl] at e0
  refine wp_sec 1 pieceBodyempty rfl ?_
  conv => arg 2; whnf
  go_wp2_with fail
  cases r with
  | error e =>
    refine (eadd_any n fb ov f (Ep.markOf bl) none W1 (HG.out.below (HB.out.trans HB1.out) HN1.out) HH.out (HidP.zero _) HN1.out HN2.out HF.out _ HR.out).mono ?_
    rintro e4 w4 ⟨rfl, he0, hb4⟩
    have HB5 := Lib.hid (HB1.out.trans hb4)
    clear hb4
    go_wp2_with fail
    exact bodyPost_ret (v := .int .i64 e) (by simp [results, Tryz.results81, go_sem]) rfl ⟨rfl, he0, HB5.out⟩
  | ok f2 =>
    refine (eadd_any n fb ov f (Ep.markOf bl) none W1 (HG.out.below (HB.out.trans HB1.out) HN1.out) HH.out (HidP.zero _) HN1.out HN2.out HF.out _ HR.out).mono ?_
    rintro e4 w4 ⟨rfl, hfs4, hb4⟩
    have HB5 := Lib.hid (HB1.out.trans hb4)
    have HF5 := Lib.hid hfs4
    clear hb4 hfs4
    go_wp2_with fail
    exact bodyPost_ret (v := .int .i64 0) (by simp [results, Tryz.results81, go_sem]) rfl ⟨rfl, HF5.out, HB5.out⟩


noncomputable def pieceBodyraw : Code := Tryz.f81.body.getD .skip

set_option maxRecDepth 100000 in
set_option maxHeartbeats 4000000 in
theorem piece_raw (n fb : Nat) (f : Ep.Fl) (p : Ep.Pc) (va : Value) (ags : List Ep.Arg) (w0 w : World) (hn : w0.heap.size = n) (hG : Glob w0) (ha : Ags w0 va ags) (h : ∃ ov, Fs w n fb ov f) (hB : Below n w0 w)
    (_ : ags.length ≤ 1000000) (hf : f.out.length ≤ 4000) (r : Except Int Ep.Fl) (a : Ep.Arg) (hpa : ags[p.par]? = some a) (hw : p.way = 3) (he : a.raw.isEmpty = false) (hln : a.raw.length ≤ 1000000) (hr : Ep.addAll (Ep.come a.raw p.t.bl) f = some r) :
    Calls Tryz.prog 81 #[.pointer (some ⟨fb, 0, none⟩), pcV p, va] w (AddPost n fb w r) := by
  have hnw : n ≤ w.heap.size := by have := hB.size; omega
  have hn1 : 1 < n := by have := hG.pos; omega
  obtain ⟨⟨kd, tx, fl, fr, en, bl⟩, way, par⟩ := p
  unfold pcV
  dsimp only at *
  subst hw
  have hA : Below w.heap.size w (w.alloc (.cells #[.int .i64 kd, .string tx, .int .i64 fl, .int .i64 fr, .int .i64 en, .bool bl, .int .i64 ((3 : Nat) : Int), .int .i64 (par : Int)] 149)) := (Below.refl _ _).alloc (Nat.le_refl _) _
  have hbx := heap_alloc_new w (.cells #[.int .i64 kd, .string tx, .int .i64 fl, .int .i64 fr, .int .i64 en, .bool bl, .int .i64 ((3 : Nat) : Int), .int .i64 (par : Int)] 149)
  have hB1 : Below n w (w.alloc (.cells #[.int .i64 kd, .string tx, .int .i64 fl, .int .i64 fr, .int .i64 en, .bool bl, .int .i64 ((3 : Nat) : Int), .int .i64 (par : Int)] 149)) := hA.mono hnw
  have h1 := h.imp fun ov h => h.below hA
  have hn2 : n ≤ (w.alloc (.cells #[.int .i64 kd, .string tx, .int .i64 fl, .int .i64 fr, .int .i64 en, .bool bl, .int .i64 ((3 : Nat) : Int), .int .i64 (par : Int)] 149)).heap.size := Nat.le_trans hnw hA.size
  have HBX := Lib.hid hbx
  have HB1 := Lib.hid hB1
  have H1 := Lib.hid h1
  have HA0 := Lib.hid ha
  have HG := Lib.hid hG
  have HB := Lib.hid hB
  have HF := Lib.hid hf
  have HN := Lib.hid hn
  have HN1 := Lib.hid hn1
  have HN2 := Lib.hid hn2
  have HR := Lib.hid hr
  have HPA := Lib.hid hpa
  clear hA hbx hB1 h1 ha hG hB hf hn hn1 hn2 h hnw hr hpa
  go_enter Tryz.func81, Tryz.ntmps81
  show Code.wp Tryz.prog (secs 0 pieceBodyraw) _ _ _
  refine wp_sec 0 pieceBodyraw rfl ?_
  conv => arg 2; whnf
  go_wp2_with fail
  generalize (w.alloc (.cells #[.int .i64 kd, .string tx, .int .i64 fl, .int .i64 fr, .int .i64 en, .bool bl, .int .i64 ((3 : Nat) : Int), .int .i64 (par : Int)] 149)) = W1 at HBX HB1 H1 HN2 ⊢
  obtain ⟨b0, b1, b2, b3, b4, b5, b6, b7, -⟩ := box8_cells HBX.out
  obtain ⟨ov, h1⟩ := H1.out
  have g0 : W1.cell? ⟨fb, 0, none⟩ = some ov := (Lib.cell_of_heap h1.blk 0).trans rfl
  have g1 : W1.cell? ⟨fb, 1, none⟩ = some (.bool f.gl) := (Lib.cell_of_heap h1.blk 1).trans rfl
  have gf : W1.frozen? ⟨fb, 1, none⟩ = false := by simp [World.frozen?, h1.blk]
  have HH := Lib.hid h1
  clear h1
  have hpl : par < ags.length := (List.getElem?_eq_some_iff.1 HPA.out).1
  have z1 : (0 : Int) ≤ par := by omega
  have z2 : (par : Int) < ags.length := by omega
  obtain ⟨aad, acap, rfl, -, -, hget⟩ := HA0.out
  obtain ⟨g, o, rfl, vr, vf, e0, hr0, e1, hf0, q0, q1, q2, q3, q4, q5⟩ := hget par a HPA.out
  have hbb := HB.out.trans HB1.out
  have hgl0 : g < n := by have := lt_of_cell e0; rw [HN.out] at this; exact this
  have q : ∀ (j : Nat) (u : Value), w0.cell? ⟨g, j, none⟩ = some u → W1.cell? ⟨g, j, none⟩ = some u := fun j u hu => (hbb.cell (p := ⟨g, j, none⟩) hgl0).trans hu
  replace e0 := q _ _ e0
  replace e1 := q _ _ e1
  replace q0 := q _ _ q0
  replace q1 := q _ _ q1
  replace q2 := q _ _ q2
  replace q3 := q _ _ q3
  replace q4 := q _ _ q4
  replace q5 := q _ _ q5
  have HR0 := Lib.hid hr0
  have HF0 := Lib.hid hf0
  obtain ⟨rad, rcap, rfl, -, -⟩ := hr0.form
  obtain ⟨fad, fcap, rfl, -, -⟩ := hf0.form
  clear hget q hr0 hf0 hbb hgl0
  have hrl : ¬ a.raw.length = 0 := by intro h; rw [List.length_eq_zero_iff.1 h] at he; cases he
  have hrl2 : ((a.raw.length : Int) == 0) = false := beq_eq_false_iff_ne.2 (by omega)
  have HLN := Lib.hid hln
  have KC := Lib.hid (show Calls Tryz.prog 98 #[.pointer (some ⟨fb, 0, none⟩), .slice rad a.raw.length rcap, .bool bl] W1.drew (fun e4 w4 => ∃ k : Int, e4 = .returned (.int .i64 k) ∧ AddPost n fb w r (.returned (.int .i64 k)) w4) from (elist_any n fb f (.slice rad a.raw.length rcap) a.raw bl w0 W1.drew HN.out HG.out HR0.out ⟨ov, HH.out.below ((Below.refl _ _).drew)⟩ (HB.out.trans HB1.out).drew HLN.out HF.out r HR.out).mono (fun e4 w4 h4 => by
    cases r with
    | error k => obtain ⟨rfl, h0, hb4⟩ := h4; exact ⟨k, rfl, rfl, h0, HB1.out.drew.trans hb4⟩
    | ok f2 => obtain ⟨rfl, hf4, hb4⟩ := h4; exact ⟨0, rfl, rfl, hf4, HB1.out.drew.trans hb4⟩))
  clear hln
  refine wp_sec 1 pieceBodyraw rfl ?_
  conv => arg 2; whnf
  go_wp2_with fail
  go_region_with ((go_at_call 98; go_split_ands; refine KC.out.mono ?_; rintro e4 w4 ⟨k4, rfl, h4⟩; have H4 := Lib.hid h4; clear h4))
  all_goals
    go_wp2_with fail
    exact bodyPost_ret (v := .int .i64 k4) (by simp [results, Tryz.results81, go_sem]) rfl H4.out


noncomputable def pieceBodyfull : Code := Tryz.f81.body.getD .skip

set_option maxRecDepth 100000 in
set_option maxHeartbeats 4000000 in
theorem piece_full (n fb : Nat) (f : Ep.Fl) (p : Ep.Pc) (va : Value) (ags : List Ep.Arg) (w0 w : World) (hn : w0.heap.size = n) (hG : Glob w0) (ha : Ags w0 va ags) (h : ∃ ov, Fs w n fb ov f) (hB : Below n w0 w)
    (_ : ags.length ≤ 1000000) (hf : f.out.length ≤ 4000) (r : Except Int Ep.Fl) (a : Ep.Arg) (hpa : ags[p.par]? = some a) (hw : p.way = 4) (hln : a.full.length ≤ 1000000) (hr : Ep.addAll (Ep.come a.full p.t.bl) f = some r) :
    Calls Tryz.prog 81 #[.pointer (some ⟨fb, 0, none⟩), pcV p, va] w (AddPost n fb w r) := by
  have hnw : n ≤ w.heap.size := by have := hB.size; omega
  have hn1 : 1 < n := by have := hG.pos; omega
  obtain ⟨⟨kd, tx, fl, fr, en, bl⟩, way, par⟩ := p
  unfold pcV
  dsimp only at *
  subst hw
  have hA : Below w.heap.size w (w.alloc (.cells #[.int .i64 kd, .string tx, .int .i64 fl, .int .i64 fr, .int .i64 en, .bool bl, .int .i64 ((4 : Nat) : Int), .int .i64 (par : Int)] 149)) := (Below.refl _ _).alloc (Nat.le_refl _) _
  have hbx := heap_alloc_new w (.cells #[.int .i64 kd, .string tx, .int .i64 fl, .int .i64 fr, .int .i64 en, .bool bl, .int .i64 ((4 : Nat) : Int), .int .i64 (par : Int)] 149)
  have hB1 : Below n w (w.alloc (.cells #[.int .i64 kd, .string tx, .int .i64 fl, .int .i64 fr, .int .i64 en, .bool bl, .int .i64 ((4 : Nat) : Int), .int .i64 (par : Int)] 149)) := hA.mono hnw
  have h1 := h.imp fun ov h => h.below hA
  have hn2 : n ≤ (w.alloc (.cells #[.int .i64 kd, .string tx, .int .i64 fl, .int .i64 fr, .int .i64 en, .bool bl, .int .i64 ((4 : Nat) : Int), .int .i64 (par : Int)] 149)).heap.size := Nat.le_trans hnw hA.size
  have HBX := Lib.hid hbx
  have HB1 := Lib.hid hB1
  have H1 := Lib.hid h1
  have HA0 := Lib.hid ha
  have HG := Lib.hid hG
  have HB := Lib.hid hB
  have HF := Lib.hid hf
  have HN := Lib.hid hn
  have HN1 := Lib.hid hn1
  have HN2 := Lib.hid hn2
  have HR := Lib.hid hr
  have HPA := Lib.hid hpa
  clear hA hbx hB1 h1 ha hG hB hf hn hn1 hn2 h hnw hr hpa
  go_enter Tryz.func81, Tryz.ntmps81
  show Code.wp Tryz.prog (secs 0 pieceBodyfull) _ _ _
  refine wp_sec 0 pieceBodyfull rfl ?_
  conv => arg 2; whnf
  go_wp2_with fail
  generalize (w.alloc (.cells #[.int .i64 kd, .string tx, .int .i64 fl, .int .i64 fr, .int .i64 en, .bool bl, .int .i64 ((4 : Nat) : Int), .int .i64 (par : Int)] 149)) = W1 at HBX HB1 H1 HN2 ⊢
  obtain ⟨b0, b1, b2, b3, b4, b5, b6, b7, -⟩ := box8_cells HBX.out
  obtain ⟨ov, h1⟩ := H1.out
  have g0 : W1.cell? ⟨fb, 0, none⟩ = some ov := (Lib.cell_of_heap h1.blk 0).trans rfl
  have g1 : W1.cell? ⟨fb, 1, none⟩ = some (.bool f.gl) := (Lib.cell_of_heap h1.blk 1).trans rfl
  have gf : W1.frozen? ⟨fb, 1, none⟩ = false := by simp [World.frozen?, h1.blk]
  have HH := Lib.hid h1
  clear h1
  have hpl : par < ags.length := (List.getElem?_eq_some_iff.1 HPA.out).1
  have z1 : (0 : Int) ≤ par := by omega
  have z2 : (par : Int) < ags.length := by omega
  obtain ⟨aad, acap, rfl, -, -, hget⟩ := HA0.out
  obtain ⟨g, o, rfl, vr, vf, e0, hr0, e1, hf0, q0, q1, q2, q3, q4, q5⟩ := hget par a HPA.out
  have hbb := HB.out.trans HB1.out
  have hgl0 : g < n := by have := lt_of_cell e0; rw [HN.out] at this; exact this
  have q : ∀ (j : Nat) (u : Value), w0.cell? ⟨g, j, none⟩ = some u → W1.cell? ⟨g, j, none⟩ = some u := fun j u hu => (hbb.cell (p := ⟨g, j, none⟩) hgl0).trans hu
  replace e0 := q _ _ e0
  replace e1 := q _ _ e1
  replace q0 := q _ _ q0
  replace q1 := q _ _ q1
  replace q2 := q _ _ q2
  replace q3 := q _ _ q3
  replace q4 := q _ _ q4
  replace q5 := q _ _ q5
  have HR0 := Lib.hid hr0
  have HF0 := Lib.hid hf0
  obtain ⟨rad, rcap, rfl, -, -⟩ := hr0.form
  obtain ⟨fad, fcap, rfl, -, -⟩ := hf0.form
  clear hget q hr0 hf0 hbb hgl0
  have HLN := Lib.hid hln
  have KC := Lib.hid (show Calls Tryz.prog 98 #[.pointer (some ⟨fb, 0, none⟩), .slice fad a.full.length fcap, .bool bl] W1.drew (fun e4 w4 => ∃ k : Int, e4 = .returned (.int .i64 k) ∧ AddPost n fb w r (.returned (.int .i64 k)) w4) from (elist_any n fb f (.slice fad a.full.length fcap) a.full bl w0 W1.drew HN.out HG.out HF0.out ⟨ov, HH.out.below ((Below.refl _ _).drew)⟩ (HB.out.trans HB1.out).drew HLN.out HF.out r HR.out).mono (fun e4 w4 h4 => by
    cases r with
    | error k => obtain ⟨rfl, h0, hb4⟩ := h4; exact ⟨k, rfl, rfl, h0, HB1.out.drew.trans hb4⟩
    | ok f2 => obtain ⟨rfl, hf4, hb4⟩ := h4; exact ⟨0, rfl, rfl, hf4, HB1.out.drew.trans hb4⟩))
  clear hln
  refine wp_sec 1 pieceBodyfull rfl ?_
  conv => arg 2; whnf
  go_wp2_with fail
  go_region_with ((go_at_call 98; go_split_ands; refine KC.out.mono ?_; rintro e4 w4 ⟨k4, rfl, h4⟩; have H4 := Lib.hid h4; clear h4))
  all_goals
    go_wp2_with fail
    exact bodyPost_ret (v := .int .i64 k4) (by simp [results, Tryz.results81, go_sem]) rfl H4.out


end Go.Proofs.YtlepnafgcmeimaaGreatDoor

/- Runs and arguments: what is told of them; the row of arguments while it is filled. -/
namespace Go.Proofs.YtlepnafgcmeimaaGreatDoor
open Go.RowKit Go.Shelf
open Ep (HT XS)
open Mx (M)

/-- More is planned, more was replaced. -/
structure Ep.Le (X X' : XS) : Prop where
  st : X.steps ≤ X'.steps
  pl : ∀ j q, Ep.planIx j X.pl 0 = some q → Ep.planIx j X'.pl 0 = some q
theorem Ep.Le.refl (X : XS) : Ep.Le X X := ⟨Nat.le_refl _, fun _ _ h => h⟩
theorem Ep.Le.trans {X Y Z : XS} (h : Ep.Le X Y) (k : Ep.Le Y Z) : Ep.Le X Z := ⟨Nat.le_trans h.st k.st, fun j q e => k.pl j q (h.pl j q e)⟩
/-- What a run tells. -/
def RunPost (w0 w : World) (xb mb : Nat) (kb : Nat → Nat) (ms : List M) (X : XS) (r : Except Int (XS × List HT)) (e : Ending) (w' : World) : Prop :=
  Fr true w0.heap.size w.heap.size w w' ∧
  match r with
  | .ok (X', l) => (∃ v, e = .returned (.tuple #[v, .int .i64 0]) ∧ Hs w' v l) ∧ l.length ≤ 4000 ∧ XM w0 w' xb mb kb ms X' ∧ Ep.Le X X'
  | .error k => e = .returned (.tuple #[.slice none 0 0, .int .i64 k]) ∧ k ≠ 0
def RunAny (w0 : World) (xb mb : Nat) (kb : Nat → Nat) (ms : List M) (run : XS → List HT → Ep.R (XS × List HT)) : Prop :=
  ∀ (X : XS) (l : List HT) (v : Value) (W : World) (r : Except Int (XS × List HT)), XM w0 W xb mb kb ms X → Hs W v l → l.length ≤ 1000000 → run X l = some r → Calls Tryz.prog 21 #[.pointer (some ⟨xb, 0, none⟩), v] W (RunPost w0 W xb mb kb ms X r)
def ArgsPost (w0 w : World) (xb mb : Nat) (kb : Nat → Nat) (ms : List M) (X : XS) (r : Except Int (XS × List Ep.Arg)) (e : Ending) (w' : World) : Prop :=
  Fr true w0.heap.size w.heap.size w w' ∧
  match r with
  | .ok (X', ags) => (∃ v, e = .returned (.tuple #[v, .int .i64 0]) ∧ Ags w' v ags) ∧ ags.length ≤ 1000000 ∧ (∀ a ∈ ags, a.raw.length ≤ 1000000 ∧ a.full.length ≤ 1000000) ∧ XM w0 w' xb mb kb ms X' ∧ Ep.Le X X'
  | .error k => e = .returned (.tuple #[.slice none 0 0, .int .i64 k]) ∧ k ≠ 0

/-! ### the row while it is filled -/
/-- What stays while an argument is told: cells but of the expansion and of macros, and but for those of one argument. -/
structure KA (ag k : Nat) (W W' : World) : Prop where
  other : ∀ (b : Nat) (cs : Array Value) (t : TypeId) (fz : Nat × Nat), b ≠ ag → W.heap[b]? = some (.cells cs t fz) → t ≠ 81 → t ≠ 85 → W'.heap[b]? = some (.cells cs t fz)
  own : ∀ (cs : Array Value), W.heap[ag]? = some (.cells cs 142 (0, 0)) → ∃ cs' : Array Value, W'.heap[ag]? = some (.cells cs' 142 (0, 0)) ∧ ∀ c, c < k * 8 ∨ k * 8 + 8 ≤ c → cs'[c]? = cs[c]?
theorem KA.trans {ag k : Nat} {W W1 W' : World} (h : KA ag k W W1) (h' : KA ag k W1 W') : KA ag k W W' :=
  ⟨fun b cs t fz hb hc h1 h2 => h'.other b cs t fz hb (h.other b cs t fz hb hc h1 h2) h1 h2, fun cs hc => by
    obtain ⟨c1, h1, h2⟩ := h.own cs hc
    obtain ⟨c2, h3, h4⟩ := h'.own c1 h1
    exact ⟨c2, h3, fun c hcc => (h4 c hcc).trans (h2 c hcc)⟩⟩
/-- Calls that leave what was there. -/
def KeepA (W W' : World) : Prop := ∀ (b : Nat) (cs : Array Value) (t : TypeId) (fz : Nat × Nat), W.heap[b]? = some (.cells cs t fz) → t ≠ 81 → t ≠ 85 → W'.heap[b]? = some (.cells cs t fz)
theorem KeepA.of_below {W W' : World} (h : Below W.heap.size W W') : KeepA W W' := fun b _ _ _ hb _ _ => (h.block b (lt_of_heap hb)).trans hb
theorem KeepA.of_fr {N : Nat} {W W' : World} (h : Fr true N W.heap.size W W') : KeepA W W' := fun b _ _ _ hb h1 h2 => h.block b _ hb (.inr ⟨fun _ => ⟨h1, h2⟩, .inr (lt_of_heap hb)⟩)
theorem KeepA.ka {W W' : World} (h : KeepA W W') (ag k : Nat) : KA ag k W W' := ⟨fun b cs t fz _ hc h1 h2 => h b cs t fz hc h1 h2, fun cs hc => ⟨cs, h _ _ _ _ hc (by decide) (by decide), fun _ _ => rfl⟩⟩
theorem KeepA.kept {W W' : World} (h : KeepA W W') {t : TypeId} (h1 : t ≠ 81) (h2 : t ≠ 85) : Kept t W W' := fun b cs fz hb => h b cs t fz hb h1 h2
theorem KeepA.hs {W W' : World} (h : KeepA W W') {v : Value} {l : List HT} (hv : Hs W v l) : Hs W' v l := hv.keep (h.kept (by decide) (by decide)) (h.kept (by decide) (by decide))
theorem KA.set {W : World} {ag : Nat} (k j : Nat) (hj : j < 8) (u : Value) : KA ag k W (W.setCell ⟨ag, k * 8 + j, none⟩ u) :=
  ⟨fun b cs t fz hb hc _ _ => (heap_setCell_other W ⟨ag, k * 8 + j, none⟩ b u hb).trans hc, fun cs hc => ⟨cs.setIfInBounds (k * 8 + j) u, by simp [World.setCell, Array.getElem?_modify, hc], fun c hcc => by rw [Array.getElem?_setIfInBounds_ne (by omega)]⟩⟩
theorem KA.kept {ag k : Nat} {W W' : World} (h : KA ag k W W') (hb : ∃ cs, W.heap[ag]? = some (.cells cs 142 (0, 0))) {t : TypeId} (h1 : t ≠ 81) (h2 : t ≠ 85) (h3 : t ≠ 142) : Kept t W W' := fun b cs fz hc => h.other b cs t fz (fun e => by
  obtain ⟨ds, hb⟩ := hb
  rw [e, hb] at hc
  cases hc
  exact h3 rfl) hc h1 h2
theorem KA.hs {ag k : Nat} {W W' : World} (h : KA ag k W W') (hb : ∃ cs, W.heap[ag]? = some (.cells cs 142 (0, 0))) {v : Value} {l : List HT} (hv : Hs W v l) : Hs W' v l := hv.keep (h.kept hb (by decide) (by decide) (by decide)) (h.kept hb (by decide) (by decide) (by decide))
/-- One argument's eight cells. -/
def ArgCs (W : World) (ag k : Nat) (v0 v1 : Value) (q : K) : Prop :=
  W.cell? ⟨ag, k * 8, none⟩ = some v0 ∧ W.cell? ⟨ag, k * 8 + 1, none⟩ = some v1 ∧ KAt W ag (k * 8 + 2) q
theorem cell_block {W : World} {b : Nat} {cs : Array Value} {t : TypeId} {fz : Nat × Nat} (h : W.heap[b]? = some (.cells cs t fz)) (c : Nat) : W.cell? ⟨b, c, none⟩ = cs[c]? := (Lib.cell_of_heap h c).trans rfl
theorem KA.cell {ag k : Nat} {W W' : World} (h : KA ag k W W') (hb : ∃ cs, W.heap[ag]? = some (.cells cs 142 (0, 0))) {c : Nat} (hc : c < k * 8 ∨ k * 8 + 8 ≤ c) : W'.cell? ⟨ag, c, none⟩ = W.cell? ⟨ag, c, none⟩ := by
  obtain ⟨cs, hb⟩ := hb
  obtain ⟨cs', h1, h2⟩ := h.own cs hb
  rw [cell_block h1, cell_block hb, h2 c hc]
theorem ArgCs.other {ag k i : Nat} {W W' : World} {v0 v1 : Value} {q : K} (h : KA ag k W W') (hb : ∃ cs, W.heap[ag]? = some (.cells cs 142 (0, 0))) (hi : i ≠ k) (ha : ArgCs W ag i v0 v1 q) : ArgCs W' ag i v0 v1 q := by
  have hc : ∀ j, j < 8 → W'.cell? ⟨ag, i * 8 + j, none⟩ = W.cell? ⟨ag, i * 8 + j, none⟩ := fun j hj => h.cell hb (by omega)
  obtain ⟨a0, a1, b0, b1, b2, b3, b4, b5⟩ := ha
  exact ⟨(hc 0 (by omega)).trans a0, (hc 1 (by omega)).trans a1, (hc 2 (by omega)).trans b0, (hc 3 (by omega)).trans b1, (hc 4 (by omega)).trans b2, (hc 5 (by omega)).trans b3, (hc 6 (by omega)).trans b4, (hc 7 (by omega)).trans b5⟩
/-- The row is filled up to there. -/
structure AgL (w0 w W : World) (xb mb : Nat) (kb : Nat → Nat) (ms : List M) (X X1 : XS) (rad : Option Addr) (raws : List (List HT)) (ag n k : Nat) (ags : List Ep.Arg) : Prop where
  xm : XM w0 W xb mb kb ms X1
  le : Ep.Le X X1
  raw : ∀ (i : Nat) (x : List HT), raws[i]? = some x → ∃ rg cs u, rad = some ⟨rg, 0, none⟩ ∧ W.heap[rg]? = some (.cells cs 54 (0, 0)) ∧ cs[i]? = some u ∧ Hs W u x
  blk : ∃ cs, W.heap[ag]? = some (.cells cs 142 (0, 0))
  hag : w.heap.size ≤ ag
  done : ∀ (i : Nat) (a : Ep.Arg), ags[i]? = some a → ∃ v0 v1, ArgCs W ag i v0 v1 a.quoted ∧ Hs W v0 a.raw ∧ Hs W v1 a.full
  len : ags.length = k
  zero : ∀ i, k ≤ i → i < n → ArgCs W ag i (.slice none 0 0) (.slice none 0 0) Ep.zeroK
  fr : Fr true w0.heap.size w.heap.size w W
/-- One argument more. -/
theorem AgL.step {w0 w W W' : World} {xb mb : Nat} {kb : Nat → Nat} {ms : List M} {X X1 X2 : XS} {rad : Option Addr} {raws : List (List HT)} {ag n k : Nat} {ags : List Ep.Arg} (h : AgL w0 w W xb mb kb ms X X1 rad raws ag n k ags)
    (hk : KA ag k W W') (hx : XM w0 W' xb mb kb ms X2) (hl : Ep.Le X1 X2) (a : Ep.Arg) {v0 v1 : Value} (hc : ArgCs W' ag k v0 v1 a.quoted) (h0 : Hs W' v0 a.raw) (h1 : Hs W' v1 a.full) (hf : Fr true w0.heap.size w.heap.size w W') :
    AgL w0 w W' xb mb kb ms X X2 rad raws ag n (k + 1) (ags ++ [a]) := by
  refine ⟨hx, h.le.trans hl, fun i x hi => ?_, ?_, h.hag, fun i b hb => ?_, by simp [h.len], fun i h2 h3 => ArgCs.other hk h.blk (by omega) (h.zero i (by omega) h3), hf⟩
  · obtain ⟨rg, cs, u, e1, e2, e3, e4⟩ := h.raw i x hi
    refine ⟨rg, cs, u, e1, hk.other rg cs _ _ (fun e => ?_) e2 (by decide) (by decide), e3, hk.hs h.blk e4⟩
    obtain ⟨ds, hb⟩ := h.blk
    rw [e, hb] at e2
    cases e2
  · obtain ⟨cs, hb⟩ := h.blk
    obtain ⟨cs', hb', -⟩ := hk.own cs hb
    exact ⟨cs', hb'⟩
  · rcases Nat.lt_or_ge i ags.length with hi | hi
    · rw [List.getElem?_append_left hi] at hb
      obtain ⟨u0, u1, c1, c2, c3⟩ := h.done i b hb
      have := h.len
      exact ⟨u0, u1, ArgCs.other hk h.blk (by omega) c1, hk.hs h.blk c2, hk.hs h.blk c3⟩
    · rw [List.getElem?_append_right hi] at hb
      have h9 : i - ags.length = 0 := by have := (List.getElem?_eq_some_iff.1 hb).1; simp at this; omega
      rw [h9] at hb
      simp only [List.getElem?_cons_zero, Option.some.injEq] at hb
      subst hb
      have := h.len
      obtain rfl : i = k := by omega
      exact ⟨v0, v1, hc, h0, h1⟩
theorem AgL.ags {w0 w W : World} {xb mb : Nat} {kb : Nat → Nat} {ms : List M} {X X1 : XS} {rad : Option Addr} {raws : List (List HT)} {ag n k : Nat} {ags : List Ep.Arg} (h : AgL w0 w W xb mb kb ms X X1 rad raws ag n k ags) (hn : k = n) (hm : n ≤ maxLen) : Ags W (.slice (some ⟨ag, 0, none⟩) n n) ags := by
  have hl := h.len
  refine ⟨_, n, by rw [hl, hn], by omega, hm, fun i a ha => ?_⟩
  obtain ⟨v0, v1, ⟨c0, c1, c2⟩, h0, h1⟩ := h.done i a ha
  refine ⟨ag, 0, rfl, v0, v1, ?_, h0, ?_, h1, ?_⟩
  · rw [Nat.zero_add]; exact c0
  · rw [Nat.zero_add]; exact c1
  · rw [Nat.zero_add]; exact c2
theorem infoArg : (Tryz.prog.info? 142).map (fun i => (i.zero, i.size, i.bytes)) = some (some (.agg #[.slice none 0 0, .slice none 0 0, .int .i64 0, .string ByteArray.empty, .int .i64 0, .int .i64 0, .int .i64 0, .bool false]), 8, 104) := by kernel_rfl
theorem made_get (z : Array Value) (n j : Nat) (h : j < n) : (madeCells z n)[j]? = some z[j % z.size]! := by
  simp [madeCells, h]
theorem argRow_zero {W : World} {B g n : Nat} (h : W.ownsRow B 142 8 (.slice (some ⟨g, 0, none⟩) n n) n (madeCells #[.slice none 0 0, .slice none 0 0, .int .i64 0, .string ByteArray.empty, .int .i64 0, .int .i64 0, .int .i64 0, .bool false] (n * 8)).toList) :
    (∃ cs, W.heap[g]? = some (.cells cs 142 (0, 0))) ∧ ∀ i, i < n → ArgCs W g i (.slice none 0 0) (.slice none 0 0) Ep.zeroK := by
  have hc := h.cells (g := g) rfl
  refine ⟨?_, fun i hi => ?_⟩
  · rcases h.2 with ⟨h', _⟩ | ⟨g', cap', cur, h', _, h2, _⟩
    · cases h'
    · cases h'; exact ⟨cur, h2⟩
  · have key : ∀ (j : Nat) (u : Value), j < 8 → (#[.slice none 0 0, .slice none 0 0, .int .i64 0, .string ByteArray.empty, .int .i64 0, .int .i64 0, .int .i64 0, .bool false] : Array Value)[j]? = some u → W.cell? ⟨g, i * 8 + j, none⟩ = some u := fun j u hj hu => by
      have := hc (i * 8 + j) u (by
        have h1 : i * 8 + j < n * 8 := by omega
        have h2 : (i * 8 + j) % 8 = j := by omega
        rw [Array.getElem?_toList, made_get _ _ _ h1]
        simp only [List.size_toArray, List.length_cons, List.length_nil, Nat.reduceAdd, h2]
        obtain ⟨hjj, hv⟩ := Array.getElem?_eq_some_iff.1 hu
        rw [← hv, getElem!_pos (#[.slice none 0 0, .slice none 0 0, .int .i64 0, .string ByteArray.empty, .int .i64 0, .int .i64 0, .int .i64 0, .bool false] : Array Value) j hjj])
      rwa [add_none, Nat.zero_add] at this
    exact ⟨key 0 _ (by omega) rfl, key 1 _ (by omega) rfl, key 2 _ (by omega) rfl, key 3 _ (by omega) rfl, key 4 _ (by omega) rfl, key 5 _ (by omega) rfl, key 6 _ (by omega) rfl, key 7 _ (by omega) rfl⟩
end Go.Proofs.YtlepnafgcmeimaaGreatDoor

/- What is proved: what step does to the expansion. -/
namespace Go.Proofs.YtlepnafgcmeimaaGreatDoor
open Go.RowKit Go.Shelf
open Ep (HT XS)
open Mx (M)

/-- A macro is of a size that may be. -/
structure MOk (m : M) : Prop where
  ps : m.ps.length ≤ 100000
  psz : ∀ p ∈ m.ps, p.size ≤ 1000000000
  bl : m.body.length ≤ 1000000
  bsz : ∀ u ∈ m.body, u.text.size ≤ 1000000000
section
variable {w0 W W' : World} {xb mb : Nat} {kb : Nat → Nat} {ms : List M} {X : XS}
/-- Only cells of the expansion's own block turn. -/
theorem Fr.setX {N n i : Nat} {u : Value} {cs : Array Value} {t : TypeId} {fz : Nat × Nat} {b : Nat} (hb : W.heap[b]? = some (.cells cs t fz)) (ht : t = 81 ∨ t = 85) (hN : N ≤ b) : Fr true N n W (W.setCell ⟨b, i, none⟩ u) :=
  ⟨rfl, rfl, rfl, by simp, fun k o hk ho => by
    refine (heap_setCell_other W ⟨b, i, none⟩ k u fun e => ?_).trans hk
    have e : k = b := e
    subst e
    rw [hb] at hk
    cases hk
    rcases ho with ho | ho
    · omega
    · rcases ht with rfl | rfl
      · exact (ho.1 rfl).1 rfl
      · exact (ho.1 rfl).2 rfl⟩
theorem KnAt.keep {b : Nat} {m : M} {q : Option Nat} (h : KnAt w0 W b m q) (hb : W'.heap[b]? = W.heap[b]?) (hk : ∀ t, t ≠ 81 → t ≠ 85 → Kept t W W') : KnAt w0 W' b m q := by
  obtain ⟨pv, bv, pp, h1, h2, h3, h4⟩ := h
  refine ⟨pv, bv, pp, hb.trans h1, h2, h3, ?_⟩
  rcases h4 with h4 | ⟨i, pb, sv, uv, e1, e2, h5⟩
  · exact .inl h4
  · exact .inr ⟨i, pb, sv, uv, e1, e2, h5.keep (hk _ (by decide) (by decide)) (hk _ (by decide) (by decide)) (hk _ (by decide) (by decide))⟩
theorem XM.step_old (h : XM w0 W xb mb kb ms X) (hs : X.steps < 1000) : XM w0 (W.setCell ⟨xb, 2, none⟩ (.int .i64 ((X.steps : Int) + 1))) xb mb kb ms ⟨X.pl, X.steps + 1⟩ := by
  have hk : ∀ t, t ≠ 81 → t ≠ 85 → Kept t W (W.setCell ⟨xb, 2, none⟩ (.int .i64 ((X.steps : Int) + 1))) := fun t h1 _ => Kept.set h.blk h1
  refine ⟨?_, h.hx, ?_, h.hm, fun j m h1 h2 => ?_, h.bl.setCell h.hx _, h.np, by show X.steps + 1 ≤ 1000; omega⟩
  · simp [World.setCell, Array.getElem?_modify, h.blk]
  · obtain ⟨es, a, b⟩ := h.mp
    exact ⟨es, a.set h.blk _, b⟩
  · have hkn := h.kn j m h1 h2
    refine hkn.keep (heap_setCell_other W ⟨xb, 2, none⟩ (kb j) _ fun e => ?_) hk
    have e : kb j = xb := e
    obtain ⟨_, _, _, b1, -⟩ := hkn
    rw [e, h.blk] at b1
    injection b1 with b1
    injection b1 with _ b1 _
    exact absurd b1 (by decide)
theorem XM.step_new {j : Nat} {m : M} {pb : Nat} {sv uv : Value} {W1 : World} (h : XM w0 W xb mb kb ms X) (hj : ms[j]? = some m) (hj' : Ep.ixOf m.name ms 0 = some j) (hq : Ep.planIx j X.pl 0 = none) (hs : X.steps < 1000) (hn : X.pl.length < 60)
    (hpl : PlW W1 W.heap.size pb X.pl.length sv uv (Ep.pieces m) (Ep.pieces m) (m.ps.length + 1)) (hB : Below W.heap.size (W.setCell ⟨xb, 2, none⟩ (.int .i64 ((X.steps : Int) + 1))) W1) :
    XM w0 ((W1.setCell ⟨kb j, 5, none⟩ (.pointer (some ⟨pb, 0, none⟩))).setCell ⟨xb, 1, none⟩ (.int .i64 ((X.pl.length : Int) + 1))) xb mb kb ms ⟨X.pl ++ [j], X.steps + 1⟩ ∧
      Fr true w0.heap.size W.heap.size W ((W1.setCell ⟨kb j, 5, none⟩ (.pointer (some ⟨pb, 0, none⟩))).setCell ⟨xb, 1, none⟩ (.int .i64 ((X.pl.length : Int) + 1))) := by
  have hA := h.step_old hs
  have hsz : (W.setCell ⟨xb, 2, none⟩ (.int .i64 ((X.steps : Int) + 1))).heap.size = W.heap.size := by simp
  have hA1 := hA.below (by rw [hsz]; exact hB)
  have f1 : Fr true w0.heap.size W.heap.size W (W.setCell ⟨xb, 2, none⟩ (.int .i64 ((X.steps : Int) + 1))) := Fr.setX h.blk (.inl rfl) h.hx
  have f2 : Fr true w0.heap.size W.heap.size (W.setCell ⟨xb, 2, none⟩ (.int .i64 ((X.steps : Int) + 1))) W1 := Fr.of_below (by rw [hsz]; exact hB)
  obtain ⟨pv, bv, pp, k1, k2, k3, k4⟩ := hA1.kn j m hj hj'
  have hne : kb j ≠ xb := fun e => by
    rw [e, hA1.blk] at k1
    injection k1 with k1
    injection k1 with _ k1 _
    exact absurd k1 (by decide)
  have f3 : Fr true w0.heap.size W.heap.size W1 (W1.setCell ⟨kb j, 5, none⟩ (.pointer (some ⟨pb, 0, none⟩))) := Fr.setX k1 (.inr rfl) k3
  have x2 : (W1.setCell ⟨kb j, 5, none⟩ (.pointer (some ⟨pb, 0, none⟩))).heap[xb]? = _ := (heap_setCell_other W1 ⟨kb j, 5, none⟩ xb _ (Ne.symm hne)).trans hA1.blk
  have f4 : Fr true w0.heap.size W.heap.size (W1.setCell ⟨kb j, 5, none⟩ (.pointer (some ⟨pb, 0, none⟩))) ((W1.setCell ⟨kb j, 5, none⟩ (.pointer (some ⟨pb, 0, none⟩))).setCell ⟨xb, 1, none⟩ (.int .i64 ((X.pl.length : Int) + 1))) := Fr.setX x2 (.inl rfl) h.hx
  refine ⟨?_, ((f1.trans f2).trans f3).trans f4⟩
  have hpp : pp = none := by
    rcases k4 with ⟨_, e⟩ | ⟨i, _, _, _, e, _⟩
    · exact e
    · have e : Ep.planIx j X.pl 0 = some i := e
      rw [hq] at e; cases e
  subst hpp
  have hk : ∀ t, t ≠ 81 → t ≠ 85 → Kept t W1 ((W1.setCell ⟨kb j, 5, none⟩ (.pointer (some ⟨pb, 0, none⟩))).setCell ⟨xb, 1, none⟩ (.int .i64 ((X.pl.length : Int) + 1))) := fun t h1 h2 => (Kept.set k1 h2).trans (Kept.set x2 h1)
  refine ⟨?_, h.hx, ?_, h.hm, fun i m' h1 h2 => ?_, (hA1.bl.setCell k3 _).setCell h.hx _, ?_, by show X.steps + 1 ≤ 1000; omega⟩
  · simp [World.setCell, Array.getElem?_modify, hA1.blk, hne]
  · obtain ⟨es, a, b⟩ := hA1.mp
    exact ⟨es, (a.set k1 _).set x2 _, b⟩
  · have hkn := hA1.kn i m' h1 h2
    by_cases e : i = j
    · subst e
      rw [h1] at hj
      injection hj with hj
      subst hj
      have hx : Ep.planIx i (X.pl ++ [i]) 0 = some X.pl.length := by rw [Ep.planIx_snoc, hq]; simp
      rw [hx]
      refine ⟨pv, bv, some ⟨pb, 0, none⟩, ?_, k2, k3, .inr ⟨X.pl.length, pb, sv, uv, rfl, rfl, (hpl.base (by have := h.bl.size; exact this)).keep (hk _ (by decide) (by decide)) (hk _ (by decide) (by decide)) (hk _ (by decide) (by decide))⟩⟩
      have : ((W1.setCell ⟨kb i, 5, none⟩ (.pointer (some ⟨pb, 0, none⟩))).setCell ⟨xb, 1, none⟩ (.int .i64 ((X.pl.length : Int) + 1))).heap[kb i]? = (W1.setCell ⟨kb i, 5, none⟩ (.pointer (some ⟨pb, 0, none⟩))).heap[kb i]? := heap_setCell_other _ ⟨xb, 1, none⟩ (kb i) _ hne
      rw [this]
      simp [World.setCell, Array.getElem?_modify, k1]
    · have hx : Ep.planIx i (X.pl ++ [j]) 0 = Ep.planIx i X.pl 0 := by
        rw [Ep.planIx_snoc]
        cases Ep.planIx i X.pl 0 with
        | some q => rfl
        | none => dsimp only; rw [if_neg (fun e' => e e'.symm)]
      rw [hx]
      have hki : kb i ≠ kb j := fun e' => e (hA1.inj h1 h2 hj hj' e')
      have hkx : kb i ≠ xb := fun e' => by
        obtain ⟨_, _, _, b1, -⟩ := hkn
        rw [e', hA1.blk] at b1
        injection b1 with b1
        injection b1 with _ b1 _
        exact absurd b1 (by decide)
      exact hkn.keep ((heap_setCell_other _ ⟨xb, 1, none⟩ (kb i) _ hkx).trans (heap_setCell_other _ ⟨kb j, 5, none⟩ (kb i) _ hki)) hk
  · show (X.pl ++ [j]).length ≤ 60
    simp; omega
end
def StepPost (w0 w : World) (xb mb : Nat) (kb : Nat → Nat) (ms : List M) (X X1 : XS) (j q : Nat) (e : Ending) (w' : World) : Prop :=
  e = .returned (.int .i64 0) ∧ XM w0 w' xb mb kb ms X1 ∧ Fr true w0.heap.size w.heap.size w w' ∧ Ep.Le X X1 ∧ Ep.planIx j X1.pl 0 = some q ∧ X1.steps = X.steps + 1 ∧ q < 60
theorem estep_any (w0 : World) (xb mb : Nat) (kb : Nat → Nat) (ms : List M) (X X1 : XS) (j q : Nat) (m : M) (w : World) (h : XM w0 w xb mb kb ms X) (hj : ms[j]? = some m) (hj' : Ep.ixOf m.name ms 0 = some j) (hm : MOk m) (hs : Ep.stepOf X j = some (X1, q)) :
    Calls Tryz.prog 62 #[.pointer (some ⟨xb, 0, none⟩), .pointer (some ⟨kb j, 0, none⟩)] w (StepPost w0 w xb mb kb ms X X1 j q) := by
  unfold Ep.stepOf at hs
  split at hs
  · rename_i hst
    obtain ⟨pv, bv, pp, k1, k2, k3, k4⟩ := h.kn j m hj hj'
    cases hq : Ep.planIx j X.pl 0 with
    | some q0 =>
      rw [hq] at hs
      injection hs with hs
      injection hs with e1 e2
      subst e1 e2
      rcases k4 with ⟨e, _⟩ | ⟨i, pb, sv, uv, e, rfl, hpl⟩
      · rw [hq] at e; cases e
      · refine (estep_old xb (kb j) _ X.pl.length X.steps _ _ _ _ _ ⟨pb, 0, none⟩ w h.blk k1 hst).mono ?_
        rintro e w' ⟨rfl, rfl⟩
        have hlt := (Ep.planIx_lt j X.pl 0 q0 hq).2
        exact ⟨rfl, h.step_old hst, Fr.setX h.blk (.inl rfl) h.hx, ⟨Nat.le_succ _, fun _ _ e => e⟩, hq, rfl, by have := h.np; omega⟩
    | none =>
      rw [hq] at hs
      dsimp only at hs
      split at hs
      · rename_i hn
        injection hs with hs
        injection hs with e1 e2
        subst e1 e2
        have hpp : pp = none := by
          rcases k4 with ⟨_, e⟩ | ⟨i, _, _, _, e, _⟩
          · exact e
          · rw [hq] at e; cases e
        subst hpp
        refine (estep_new xb (kb j) _ X.pl.length X.steps m pv bv w0 w h.blk k1 k2 h.bl h.hx hst (by omega) hm.bsz hm.bl (by have := hm.ps; omega) hm.psz).mono ?_
        rintro e w' ⟨rfl, pb, sv, uv, W1, hpl, hB, rfl⟩
        obtain ⟨a, b⟩ := h.step_new hj hj' hq hst hn hpl hB
        have hx : Ep.planIx j (X.pl ++ [j]) 0 = some X.pl.length := by rw [Ep.planIx_snoc, hq]; simp
        refine ⟨rfl, a, b, ⟨Nat.le_succ _, fun i q' e => ?_⟩, hx, rfl, by omega⟩
        show Ep.planIx i (X.pl ++ [j]) 0 = some q'
        rw [Ep.planIx_snoc, e]
      · cases hs
  · cases hs
end Go.Proofs.YtlepnafgcmeimaaGreatDoor

/- Plain: what stays is told as it is; what has no macro's name; a macro's own name; one name that stands for tokens. -/
namespace Go.Proofs.YtlepnafgcmeimaaGreatDoor
namespace Ep
open Mx (M isP has LP RP CM HS HH VA)

/-- One list, if it is not empty. -/
def stk (l : List HT) : List (List HT) := if l.isEmpty then [] else [l]
theorem put_stk (l : List HT) (b : Bool) : (put l b []).1 = stk l := by cases l <;> rfl
def Small (l : List HT) : Prop := ∀ x ∈ l, x.t.text.size ≤ 1000000
/-- The first one has Blank, too. -/
def withBl (b : Bool) : List HT → List HT
  | [] => []
  | x :: r => ⟨blK x.t (x.t.bl || b), x.hd, x.mark⟩ :: r
theorem withBl_false (l : List HT) : withBl false l = l := by
  cases l with
  | nil => rfl
  | cons x r =>
    obtain ⟨⟨a, b, c, d, e, f⟩, hd, mk'⟩ := x
    simp [withBl, blK]
theorem withBl_len (b : Bool) (l : List HT) : (withBl b l).length = l.length := by cases l <;> rfl
/-- A token that stays. -/
def StayB (ms : List M) (X : XS) (x : HT) : Prop := macroOf ms X x = none
theorem macroOf_bl (ms : List M) (X : XS) (x : HT) (b : Bool) : macroOf ms X ⟨blK x.t b, x.hd, x.mark⟩ = macroOf ms X x := rfl
theorem drop1_one (x : HT) (r : List HT) (st : List (List HT)) : drop1 1 ((x :: r) :: st) = (put r false st).1 := by
  cases r with
  | nil => rfl
  | cons y r' =>
    simp [drop1, put]
/-- What stays is told as it is. -/
theorem run_stay (ms : List M) (X : XS) : ∀ (l : List HT) (n k : Nat) (b : Bool), Small l → (∀ x ∈ l, StayB ms X x) → l.length < n → k + l.length ≤ 4000 → run ms n k X (stk l) b = some (.ok (X, withBl b l))
  | [], n + 1, k, b, _, _, _, _ => rfl
  | x :: r, n + 1, k, b, hs, h, hn, hk => by
    simp only [List.length_cons] at hn hk
    have e : stk (x :: r) = [x :: r] := rfl
    have e1 : next [x :: r] b = some (⟨blK x.t (x.t.bl || b), x.hd, x.mark⟩, stk r) := by
      show some (_, drop1 1 [x :: r]) = _
      rw [drop1_one, put_stk]
    rw [e, run, e1]
    simp only
    rw [if_neg (by have := hs x List.mem_cons_self; show ¬ 1000000 < x.t.text.size; omega), macroOf_bl, h x List.mem_cons_self]
    simp only
    rw [if_pos (by omega), run_stay ms X r n (k + 1) false (fun y hy => hs y (List.mem_cons_of_mem _ hy)) (fun y hy => h y (List.mem_cons_of_mem _ hy)) (by omega) (by omega), withBl_false]
    rfl
/-- What stays of two lists. -/
theorem run_stay2 (ms : List M) (X : XS) (m : List HT) (hsm : Small m) (hm : ∀ x ∈ m, StayB ms X x) : ∀ (l : List HT) (n k : Nat), Small l → (∀ x ∈ l, StayB ms X x) → l.length + m.length < n → k + l.length + m.length ≤ 4000 →
    run ms n k X (put l false (stk m)).1 false = some (.ok (X, l ++ m))
  | [], n, k, _, _, hn, hk => by
    show run ms n k X (stk m) false = _
    rw [run_stay ms X m n k false hsm hm (by simp only [List.length_nil] at hn; omega) (by simp only [List.length_nil] at hk; omega), withBl_false]
    rfl
  | x :: r, n + 1, k, hs, h, hn, hk => by
    simp only [List.length_cons] at hn hk
    have e : (put (x :: r) false (stk m)).1 = (x :: r) :: stk m := rfl
    have e1 : next ((x :: r) :: stk m) false = some (⟨blK x.t (x.t.bl || false), x.hd, x.mark⟩, (put r false (stk m)).1) := by
      show some (_, drop1 1 ((x :: r) :: stk m)) = _
      rw [drop1_one]
    rw [e, run, e1]
    simp only
    rw [if_neg (by have := hs x List.mem_cons_self; show ¬ 1000000 < x.t.text.size; omega), macroOf_bl, h x List.mem_cons_self]
    simp only
    rw [if_pos (by omega), run_stay2 ms X m hsm hm r n (k + 1) (fun y hy => hs y (List.mem_cons_of_mem _ hy)) (fun y hy => h y (List.mem_cons_of_mem _ hy)) (by omega) (by omega)]
    have e2 : (⟨blK x.t (x.t.bl || false), x.hd, x.mark⟩ : HT) = x := by
      obtain ⟨⟨a, b, c, d, e, f⟩, hd, mk'⟩ := x
      simp [blK]
    rw [e2]
    rfl
/-- These come ahead. -/
def aheadR (l : List HT) : R (XS × List HT) → R (XS × List HT)
  | some (.ok (X, y)) => some (.ok (X, l ++ y))
  | o => o
theorem run_ahead (ms : List M) (X : XS) (y : HT) (r : List HT) : ∀ (l : List HT) (n k : Nat), Small l → (∀ x ∈ l, StayB ms X x) → k + l.length ≤ 4000 →
    run ms (n + l.length) k X [l ++ y :: r] false = aheadR l (run ms n (k + l.length) X [y :: r] false)
  | [], n, k, _, _, _ => by
    show run ms n k X [y :: r] false = _
    rw [List.length_nil, Nat.add_zero]
    cases run ms n k X [y :: r] false with
    | none => rfl
    | some o => cases o with
      | error e => rfl
      | ok z => rfl
  | x :: l, n, k, hs, h, hk => by
    simp only [List.length_cons] at hk
    have e1 : next [x :: (l ++ y :: r)] false = some (⟨blK x.t (x.t.bl || false), x.hd, x.mark⟩, [l ++ y :: r]) := by
      show some (_, drop1 1 [x :: (l ++ y :: r)]) = _
      rw [drop1_one, put_stk]
      cases l <;> rfl
    have e2 : (⟨blK x.t (x.t.bl || false), x.hd, x.mark⟩ : HT) = x := by
      obtain ⟨⟨a, b, c, d, e, f⟩, hd, mk'⟩ := x
      simp [blK]
    rw [List.length_cons, ← Nat.add_assoc, List.cons_append, run, e1]
    simp only
    rw [if_neg (by have := hs x List.mem_cons_self; show ¬ 1000000 < x.t.text.size; omega), macroOf_bl, h x List.mem_cons_self]
    simp only
    rw [if_pos (by omega), run_ahead ms X y r l n (k + 1) (fun z hz => hs z (List.mem_cons_of_mem _ hz)) (fun z hz => h z (List.mem_cons_of_mem _ hz)) (by omega), e2, show k + (l.length + 1) = k + 1 + l.length by omega]
    cases run ms n (k + 1 + l.length) X [y :: r] false with
    | none => rfl
    | some o => cases o with
      | error e => rfl
      | ok z => rfl

/-! ### a macro without parameters whose body has no ## -/
theorem parOf_plain {m : M} (h : m.fn = false) (t : K) : parOf m t = none := by
  unfold parOf parIx; rw [h]; simp
theorem pieceOf_plain {m : M} (h : m.fn = false) (hn : ∀ t ∈ m.body, isP t HH = false) {i : Nat} {t : K} (ht : m.body[i]? = some t) : pieceOf m i = ⟨t, 0, 0⟩ := by
  unfold pieceOf
  rw [ht]
  simp only
  unfold pieceAt
  have hp : ∀ o, parIn m o = none := fun o => by cases o with
    | none => rfl
    | some u => exact parOf_plain h u
  rw [if_neg (by rw [hn t (List.mem_of_getElem? ht)]; simp), hp, if_neg (by simp), parOf_plain h]
theorem pcs_plain {m : M} (h : m.fn = false) (hn : ∀ t ∈ m.body, isP t HH = false) : ∀ (f i : Nat), m.body.length ≤ f + i → pcs m f i = (m.body.drop i).map fun t => ⟨t, 0, 0⟩
  | 0, i, hf => by rw [List.drop_eq_nil_of_le (by omega)]; rfl
  | f + 1, i, hf => by
    rw [pcs]
    by_cases hi : i < m.body.length
    · have ht : m.body[i]? = some m.body[i] := List.getElem?_eq_getElem hi
      rw [if_pos hi, pieceOf_plain h hn ht]
      simp only
      rw [if_neg (by decide), pcs_plain h hn f (i + 1) (by omega), List.drop_eq_getElem_cons hi]
      rfl
    · rw [if_neg hi, List.drop_eq_nil_of_le (by omega)]
      rfl
theorem pieces_plain {m : M} (h : m.fn = false) (hn : ∀ t ∈ m.body, isP t HH = false) : pieces m = m.body.map fun t => ⟨t, 0, 0⟩ := by
  unfold pieces
  rw [pcs_plain h hn _ 0 (by omega), List.drop_zero]
def NoMark (l : List HT) : Prop := ∀ x ∈ l, x.mark = false
theorem add_plain (f : Fl) (t : K) (hg : f.gl = false) (hm : NoMark f.out) (hl : f.out.length < 4000) : add f (HT.of t) = some (.ok ⟨f.out ++ [HT.of t], f.gl⟩) := by
  unfold add
  cases e : f.out.getLast? with
  | none =>
    simp only
    unfold app
    rw [if_pos hl]
  | some l =>
    simp only
    rw [if_neg (by rw [hg]; simp), if_neg (by rw [hm l (List.mem_of_getLast? e)]; simp)]
    unfold app
    rw [if_pos hl]
theorem fill_plain (ags : List Arg) : ∀ (l : List K) (o : List HT), NoMark o → o.length + l.length ≤ 4000 → fill ags (l.map fun t => ⟨t, 0, 0⟩) ⟨o, false⟩ = some (.ok ⟨o ++ l.map HT.of, false⟩)
  | [], o, _, _ => by simp [fill]
  | t :: r, o, hm, hl => by
    simp only [List.length_cons] at hl
    rw [List.map_cons, fill]
    have e : piece ⟨o, false⟩ ⟨t, 0, 0⟩ ags = some (.ok ⟨o ++ [HT.of t], false⟩) := by
      unfold piece
      exact add_plain ⟨o, false⟩ t rfl hm (by show o.length < 4000; omega)
    rw [e]
    simp only
    rw [fill_plain ags r (o ++ [HT.of t]) (fun x hx => by
      rcases List.mem_append.1 hx with hx | hx
      · exact hm x hx
      · rw [List.mem_singleton.1 hx]; rfl) (by rw [List.length_append]; simp only [List.length_singleton]; omega)]
    simp
theorem filled_plain {m : M} (h : m.fn = false) (hn : ∀ t ∈ m.body, isP t HH = false) (hb : m.body.length ≤ 4000) (ags : List Arg) : filled (pieces m) ags = some (.ok (m.body.map HT.of)) := by
  unfold filled
  rw [pieces_plain h hn, fill_plain ags m.body [] (fun x hx => by cases hx) (by simp only [List.length_nil]; omega)]
  simp only [List.nil_append]
  unfold unmark
  cases e : (m.body.map HT.of).getLast? with
  | none => simp only
  | some x =>
    have hx := List.mem_of_getLast? e
    obtain ⟨t, _, rfl⟩ := List.mem_map.1 hx
    simp only
    rw [if_neg (by simp [HT.of])]
/-- What comes of such a macro, when it is the first one that is replaced. -/
theorem replace_plain (rn : XS → List HT → R (XS × List HT)) (ms : List M) (m : M) (x : HT) (st : List (List HT)) (h : m.fn = false) (hn : ∀ t ∈ m.body, isP t HH = false) (hb : m.body.length ≤ 4000) :
    replace rn ms ⟨[], 0⟩ 0 m x st = some (.ok (⟨[0], 1⟩, fit x (m.body.map HT.of) x.hd 0, st)) := by
  unfold replace
  have e1 : takeInv m x st = some (.ok ([], [], x.hd, st)) := by unfold takeInv; rw [if_neg (by rw [h]; simp)]
  have e2 : stepOf ⟨[], 0⟩ 0 = some (⟨[0], 1⟩, 0) := rfl
  have e3 : shared m [] [] = .ok [] := by unfold shared; rw [if_pos (by rw [h]; rfl)]
  rw [e1]
  simp only
  rw [e2]
  simp only
  rw [e3]
  simp only [argsOf]
  rw [filled_plain h hn hb]
theorem run_plain (m : M) (x : HT) (st st' : List (List HT)) (n k : Nat) (bb : Bool) (hnx : next st bb = some (x, st')) (hs : x.t.text.size ≤ 1000000) (hx : x.t.kind = 1) (hm : m.name = x.t.text) (h : m.fn = false) (hn : ∀ t ∈ m.body, isP t HH = false) (hb : m.body.length ≤ 4000) :
    run [m] (n + 1) k ⟨[], 0⟩ st bb = run [m] n k ⟨[0], 1⟩ (put (fit x (m.body.map HT.of) x.hd 0) x.t.bl st').1 (put (fit x (m.body.map HT.of) x.hd 0) x.t.bl st').2 := by
  have e : macroOf [m] ⟨[], 0⟩ x = some 0 := by
    unfold macroOf
    rw [if_pos hx]
    unfold ixOf
    rw [if_pos hm]
    rfl
  rw [run, hnx]
  simp only
  rw [if_neg (by omega), e]
  simp only [List.getElem?_cons_zero]
  rw [if_neg (by rw [h]; simp), replace_plain _ _ _ _ _ h hn hb]

/-! ### the three laws' cores -/
theorem lined_plain : ∀ (l : List K), (∀ t ∈ l, t.kind ≠ 7) → lined false l = l.map HT.of
  | [], _ => rfl
  | t :: r, h => by
    rw [lined, if_neg (h t List.mem_cons_self), lined_plain r (fun x hx => h x (List.mem_cons_of_mem _ hx)), Bool.or_false]
    rfl
theorem lined_mem : ∀ (b : Bool) (l : List K) (x : HT), x ∈ lined b l → ∃ t ∈ l, x.t.kind = t.kind ∧ x.t.text = t.text
  | _, [], x, h => by cases h
  | b, t :: r, x, h => by
    rw [lined] at h
    split at h
    · obtain ⟨u, hu, e⟩ := lined_mem true r x h
      exact ⟨u, List.mem_cons_of_mem _ hu, e⟩
    · rcases List.mem_cons.1 h with rfl | h
      · exact ⟨t, List.mem_cons_self, rfl, rfl⟩
      · obtain ⟨u, hu, e⟩ := lined_mem false r x h
        exact ⟨u, List.mem_cons_of_mem _ hu, e⟩
theorem lined_length : ∀ (b : Bool) (l : List K), (lined b l).length ≤ l.length
  | _, [] => Nat.le_refl _
  | b, t :: r => by
    rw [lined]
    split
    · have := lined_length true r; simp only [List.length_cons]; omega
    · have := lined_length false r; simp only [List.length_cons]; omega
theorem ixOf_none (s : ByteArray) : ∀ (ms : List M) (i : Nat), (∀ m ∈ ms, m.name ≠ s) → ixOf s ms i = none
  | [], _, _ => rfl
  | m :: r, i, h => by
    rw [ixOf, if_neg (h m List.mem_cons_self), ixOf_none s r (i + 1) (fun x hx => h x (List.mem_cons_of_mem _ hx))]
/-- WHAT HAS NO MACRO'S YtlepnafgcmeimaaGreatDoor STAYS. -/
theorem none_core (ms : List M) (l : List K) (hs : ∀ t ∈ l, t.text.size ≤ 1000000) (h : ∀ t ∈ l, t.kind = 1 → ∀ m ∈ ms, m.name ≠ t.text) (hl : l.length ≤ 4000) : expand ms 5000 l = some (.ok (⟨[], 0⟩, lined false l)) := by
  unfold expand
  have hll := lined_length false l
  rw [put_stk, run_stay ms ⟨[], 0⟩ (lined false l) 5000 0 false ?_ ?_ (by omega) (by omega), withBl_false]
  · intro x hx
    obtain ⟨t, ht, _, e⟩ := lined_mem _ _ _ hx
    rw [e]; exact hs t ht
  · intro x hx
    obtain ⟨t, ht, e1, e2⟩ := lined_mem _ _ _ hx
    show macroOf ms _ x = none
    unfold macroOf
    split
    · rename_i hk
      rw [e2, ixOf_none _ _ _ (h t ht (by rw [← e1]; exact hk))]
    · rfl
theorem come_self (l : List HT) (bl : Bool) (h : ∀ x, l.head? = some x → x.t.bl = bl) : come l bl = l := by
  cases l with
  | nil => rfl
  | cons x r =>
    have := h x rfl
    obtain ⟨⟨a, b, c, d, e, f⟩, hd, mk'⟩ := x
    simp only at this
    subst this
    rfl
theorem fit_eq (x : HT) (l : List K) (h : Nat) : fit x (l.map HT.of) h 0 = come (l.map fun t => ⟨t, h ||| 1, false⟩) x.t.bl := by
  unfold fit hide
  rw [List.map_map]
  congr 1
  apply List.map_congr_left
  intro t _
  show (⟨t, 0 ||| (h ||| 1), false⟩ : HT) = _
  rw [Nat.zero_or]
theorem or01 : ∀ nm : K, (HT.of nm).hd ||| 1 = 1 := fun _ => by show 0 ||| 1 = 1; decide
/-- NO YtlepnafgcmeimaaGreatDoor IS REPLACED WITHIN WHAT CAME OF IT. -/
theorem self_core (own : M) (nm : K) (hk : nm.kind = 1) (hname : own.name = nm.text) (hnb : nm.bl = false) (hf : own.fn = false) (hn : ∀ t ∈ own.body, isP t HH = false) (hb : own.body.length ≤ 3000)
    (hstay : ∀ t ∈ own.body, t.kind = 1 → t.text = own.name) (hsz : ∀ t ∈ own.body, t.text.size ≤ 1000000) (hns : nm.text.size ≤ 1000000) (h0 : ∀ t, own.body.head? = some t → t.bl = false) :
    expand [own] 5000 [nm] = some (.ok (⟨[0], 1⟩, own.body.map fun t => ⟨t, 1, false⟩)) := by
  unfold expand
  rw [lined_plain [nm] (fun t ht => by rw [List.mem_singleton.1 ht, hk]; decide), put_stk]
  have hnx : next (stk ([nm].map HT.of)) false = some (HT.of nm, []) := by
    obtain ⟨a, b, c, d, e, f⟩ := nm
    simp only at hnb
    subst hnb
    rfl
  rw [run_plain own (HT.of nm) (stk ([nm].map HT.of)) [] 4999 0 false hnx hns hk hname hf hn (by omega), fit_eq]
  have e : come (own.body.map fun t => (⟨t, (HT.of nm).hd ||| 1, false⟩ : HT)) (HT.of nm).t.bl = own.body.map fun t => ⟨t, 1, false⟩ := by
    have e0 : (HT.of nm).t.bl = false := hnb
    rw [e0, or01, come_self]
    · intro x hx
      cases hbd : own.body with
      | nil => rw [hbd] at hx; cases hx
      | cons t r =>
        rw [hbd] at hx
        simp only [List.map_cons, List.head?_cons, Option.some.injEq] at hx
        rw [← hx]
        exact h0 t (by rw [hbd]; rfl)
  rw [e]
  have e2 : (put (own.body.map fun t => (⟨t, 1, false⟩ : HT)) (HT.of nm).t.bl []).2 = false := by
    cases own.body with
    | nil => exact hnb
    | cons t r => rfl
  rw [e2, put_stk, run_stay [own] ⟨[0], 1⟩ _ 4999 0 false ?_ ?_ (by simp; omega) (by simp; omega), withBl_false]
  · intro x hx
    obtain ⟨t, ht, rfl⟩ := List.mem_map.1 hx
    exact hsz t ht
  · intro x hx
    obtain ⟨t, ht, rfl⟩ := List.mem_map.1 hx
    show macroOf [own] ⟨[0], 1⟩ ⟨t, 1, false⟩ = none
    unfold macroOf
    split
    · rename_i hk'
      have : own.name = t.text := (hstay t ht hk').symm
      unfold ixOf
      rw [if_pos this]
      show (if (1 : Nat).testBit 0 = true then none else some 0) = none
      rw [if_pos (by decide)]
    · rfl

/-- What comes where a name stands for tokens. -/
def wantL (l bd r : List K) : List K :=
  l ++ (match bd with
    | t :: bd' => (blK t true :: bd') ++ r
    | [] => (match r with | t :: r' => blK t true :: r' | [] => []))
/-- A YtlepnafgcmeimaaGreatDoor THAT STANDS FOR TOKENS without names gives these. -/
theorem plain_core (m : M) (l r : List K) (nm : K) (hk : nm.kind = 1) (hname : m.name = nm.text) (hbl : nm.bl = true) (hf : m.fn = false) (hn : ∀ t ∈ m.body, isP t HH = false) (hi : ∀ t ∈ m.body, t.kind ≠ 1)
    (hl : ∀ t ∈ l, t.kind ≠ 1 ∧ t.kind ≠ 7) (hr : ∀ t ∈ r, t.kind ≠ 1 ∧ t.kind ≠ 7) (hb : l.length + m.body.length + r.length ≤ 3000)
    (sl : ∀ t ∈ l, t.text.size ≤ 1000000) (sr : ∀ t ∈ r, t.text.size ≤ 1000000) (sb : ∀ t ∈ m.body, t.text.size ≤ 1000000) (sn : nm.text.size ≤ 1000000) :
    ∃ X y, expand [m] 5000 (l ++ nm :: r) = some (.ok (X, y)) ∧ bareH y = wantL l m.body r := by
  have stay : ∀ X (x : HT), x.t.kind ≠ 1 → StayB [m] X x := fun X x hx => by
    show macroOf [m] X x = none
    unfold macroOf
    rw [if_neg hx]
  have hL7 : ∀ t ∈ l ++ nm :: r, t.kind ≠ 7 := fun t ht => by
    rcases List.mem_append.1 ht with h | h
    · exact (hl t h).2
    · rcases List.mem_cons.1 h with rfl | h
      · rw [hk]; decide
      · exact (hr t h).2
  unfold expand
  rw [lined_plain _ hL7, List.map_append, List.map_cons]
  have e0 : (put (l.map HT.of ++ HT.of nm :: r.map HT.of) false []).1 = [l.map HT.of ++ HT.of nm :: r.map HT.of] := by
    rw [put_stk]
    cases l <;> rfl
  have hfu : (5000 : Nat) = (4999 - l.length + 1) + (l.map HT.of).length := by rw [List.length_map]; omega
  rw [e0, hfu, run_ahead [m] ⟨[], 0⟩ (HT.of nm) (r.map HT.of) (l.map HT.of) _ 0 (fun x hx => by obtain ⟨t, ht, rfl⟩ := List.mem_map.1 hx; exact sl t ht)
    (fun x hx => by obtain ⟨t, ht, rfl⟩ := List.mem_map.1 hx; exact stay _ _ (hl t ht).1) (by rw [List.length_map]; omega)]
  have hnx : next [HT.of nm :: r.map HT.of] false = some (HT.of nm, stk (r.map HT.of)) := by
    show some (_, drop1 1 [HT.of nm :: r.map HT.of]) = _
    rw [drop1_one, put_stk]
    obtain ⟨a, b, c, d, e, f⟩ := nm
    simp only at hbl
    subst hbl
    rfl
  rw [run_plain m (HT.of nm) _ _ _ _ false hnx sn hk hname hf hn (by omega), fit_eq]
  have hsr : Small (r.map HT.of) := fun x hx => by obtain ⟨t, ht, rfl⟩ := List.mem_map.1 hx; exact sr t ht
  have hyr : ∀ X, ∀ x ∈ r.map HT.of, StayB [m] X x := fun X x hx => by obtain ⟨t, ht, rfl⟩ := List.mem_map.1 hx; exact stay _ _ (hr t ht).1
  have e1 : (HT.of nm).t.bl = true := hbl
  rw [e1, or01]
  cases hbd : m.body with
  | nil =>
    have e3 : put (come (([] : List K).map fun t => (⟨t, 1, false⟩ : HT)) true) true (stk (r.map HT.of)) = (stk (r.map HT.of), true) := rfl
    rw [e3]
    simp only
    rw [run_stay [m] _ (r.map HT.of) _ _ true hsr (hyr _) (by rw [List.length_map]; omega) (by rw [List.length_map, List.length_map]; omega)]
    refine ⟨_, _, rfl, ?_⟩
    cases r with
    | nil => simp [bareH, wantL, withBl, HT.of, Function.comp_def]
    | cons t r' => simp [bareH, wantL, withBl, HT.of, Function.comp_def]
  | cons t bd' =>
    have e3 : put (come ((t :: bd').map fun t => (⟨t, 1, false⟩ : HT)) true) true (stk (r.map HT.of)) = ((put (⟨blK t true, 1, false⟩ :: bd'.map fun t => (⟨t, 1, false⟩ : HT)) false (stk (r.map HT.of))).1, false) := rfl
    rw [e3]
    simp only
    rw [run_stay2 [m] _ (r.map HT.of) hsr (hyr _) (⟨blK t true, 1, false⟩ :: bd'.map fun t => (⟨t, 1, false⟩ : HT)) _ _ (fun x hx => by
        rcases List.mem_cons.1 hx with rfl | hx
        · exact sb t (by rw [hbd]; exact List.mem_cons_self)
        · obtain ⟨u, hu, rfl⟩ := List.mem_map.1 hx
          exact sb u (by rw [hbd]; exact List.mem_cons_of_mem _ hu)) (fun x hx => by
        rcases List.mem_cons.1 hx with rfl | hx
        · exact stay _ _ (hi t (by rw [hbd]; exact List.mem_cons_self))
        · obtain ⟨u, hu, rfl⟩ := List.mem_map.1 hx
          exact stay _ _ (hi u (by rw [hbd]; exact List.mem_cons_of_mem _ hu)))
        (by rw [hbd] at hb; simp only [List.length_cons, List.length_map] at hb ⊢; omega) (by rw [hbd] at hb; simp only [List.length_cons, List.length_map] at hb ⊢; omega)]
    refine ⟨_, _, rfl, ?_⟩
    simp [bareH, wantL, HT.of, Function.comp_def]
end Ep
end Go.Proofs.YtlepnafgcmeimaaGreatDoor
