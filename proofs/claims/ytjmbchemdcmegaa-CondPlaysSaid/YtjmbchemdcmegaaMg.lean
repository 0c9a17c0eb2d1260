/- What is proved: add, outside conditionals and within. -/
import Derived.Test.YtjmbchemdcmegaaMf
namespace Go.Proofs.Ytjmbchemdcmegaa
open Go.RowKit
open Ct Ct.T

theorem Gr.drewN (w : World) (u : Value) (q : Nat) : Gr w (w.drewN q) u u := ⟨⟨rfl, rfl, rfl, Nat.le_refl _, fun _ _ _ => rfl⟩, fun _ h => .inl h⟩
def AddPost (w : World) (a : Addr) (n base : Nat) (iv : Value) (xs new : List Value) (e : Ending) (w' : World) : Prop :=
  e = .returned (.tuple #[]) ∧ ∃ iv' W1, Gr w W1 iv iv' ∧ W1.ownsRow base 39 3 iv' (n + 1) (xs ++ new) ∧ w' = W1.setCell a iv'

set_option maxRecDepth 100000 in
set_option maxHeartbeats 4000000 in
theorem add_nil (R n base l e sn sc : Nat) (sa : Option Addr) (iv : Value) (xs : List Value) (w : World) (c : Nat) (a : Option Addr) (ht : w.cell? ⟨R, 1, none⟩ = some (.slice a 0 c)) (hc : w.cell? ⟨R, 0, none⟩ = some iv) (hfz : w.frozen? ⟨R, 0, none⟩ = false) (hne : iv.ownBlock ≠ some R) (hrow : w.ownsRow base 39 3 iv n xs) (hb : base ≤ w.heap.size) (hn : n ≤ 1000000) :
    Calls Try.prog 30 #[.pointer (some ⟨R, 0, none⟩), .agg #[.int .i64 l, .int .i64 e, .slice sa sn sc]] w (AddPost w ⟨R, 0, none⟩ n base iv xs [.int .i64 l, .int .i64 e, .slice sa sn sc]) := by
  obtain ⟨i0, hi, hz0, hz1, hz2⟩ := info_parts infoItem
  have hlt := lt_of_cell hc
  have HI := Lib.hid hi
  have HZ0 := Lib.hid hz0
  have HZ1 := Lib.hid hz1
  have HZ2 := Lib.hid hz2
  clear hi hz0 hz1 hz2
  go_enter Try.func30, Try.ntmps30
  go_wp2_with fail
  have hG0 := Gr.alloc w iv (.cells #[.int .i64 l, .int .i64 e, .slice sa sn sc] 39)
  have hbox : (w.alloc (.cells #[.int .i64 l, .int .i64 e, .slice sa sn sc] 39)).heap[w.heap.size]? = some (.cells #[.int .i64 l, .int .i64 e, .slice sa sn sc] 39 (0, 0)) := heap_alloc_new _ _
  have hrW := hrow.alloc (.cells #[.int .i64 l, .int .i64 e, .slice sa sn sc] 39)
  have hcT := Lib.cell?_alloc_some (.cells #[.int .i64 l, .int .i64 e, .slice sa sn sc] 39) ht
  generalize (w.alloc (.cells #[.int .i64 l, .int .i64 e, .slice sa sn sc] 39)) = W at hG0 hbox hrW hcT ⊢
  refine (top_nil R c a W hcT).mono ?_
  rintro e1 W2 ⟨rfl, hW2⟩
  rw [hW2]
  clear hW2 W2
  go_wp2_with fail
  have hblk := hG0.block hlt hne
  have c1 := (World.cell?_of_block (w := w) (a := ⟨R, 0, none⟩) hblk).trans hc
  have fz1 := (World.frozen?_of_block (w := w) (a := ⟨R, 0, none⟩) hblk).trans hfz
  have b0 : W.cell? ⟨w.heap.size, 0, none⟩ = some (.int .i64 l) := by simp [World.cell?, hbox]
  have b1 : W.cell? ⟨w.heap.size, 1, none⟩ = some (.int .i64 e) := by simp [World.cell?, hbox]
  have b2 : W.cell? ⟨w.heap.size, 2, none⟩ = some (.slice sa sn sc) := by simp [World.cell?, hbox]
  have hRl := lt_of_cell c1
  have hbl := lt_of_block hbox
  have hsz0 := hG0.g.size
  have HG0 := Lib.hid hG0
  have HRW := Lib.hid hrW
  have HC := Lib.hid hc
  have HFZ := Lib.hid hfz
  have HNE := Lib.hid hne
  have h1c : ∀ u ∈ [Value.int .i64 l, .int .i64 e, .slice sa sn sc], u.oneCell' = true := by simp [Value.oneCell']
  have H1C := Lib.hid h1c
  have hbase0 : base ≤ ((W.alloc (.cells #[.int .i64 l, .int .i64 e, .slice sa sn sc] 39)).drew).heap.size := by simp; omega
  clear h1c hG0 hrW hc hfz hne hblk hbox
  go_region_law ((refine step_append_lies _ rfl (.tmp 17) (.tmp 19) 24 rfl base 39 i0 _ 3 40 Try.underlying24 HI.out HZ0.out HZ1.out HZ2.out rfl (by omega) iv n xs rfl ?_ ⟨W.heap.size, 0, none⟩ 1 1 [.int .i64 l, .int .i64 e, .slice sa sn sc] rfl rfl ?_ H1C.out (by omega) (by unfold maxLen; omega) (by omega) ?_ (W.heap.size + 1) ?_ ?_; exact ((HRW.out.alloc _).drew); exact news3 _ _ _ _ _; exact hbase0; simp; intro g cap w1 hown hgrow hat hlt1; have hG1 := HG0.out.trans (((Gr.alloc _ _ _).trans (Gr.drew _ _)).trans (Gr.lies (n := n + 1) (cap := cap) hgrow (by simpa using hat))); have hc1w := (World.cell?_of_block (w := w) (a := ⟨R, 0, none⟩) (hG1.block hlt HNE.out)).trans HC.out; have hfzw := (World.frozen?_of_block (w := w) (a := ⟨R, 0, none⟩) (hG1.block hlt HNE.out)).trans HFZ.out))
  all_goals
    go_wp2_with fail
    exact bodyPost_ret (v := .tuple #[]) (by simp [results, Try.results30, go_sem]) rfl ⟨rfl, _, w1, hG1, hown, rfl⟩

set_option maxRecDepth 100000 in
set_option maxHeartbeats 4000000 in
theorem add_top (R n base l e sn sc : Nat) (sa : Option Addr) (iv : Value) (xs : List Value) (w : World) (g m c gb d bc : Nat) (ht : w.cell? ⟨R, 1, none⟩ = some (.slice (some ⟨g, 0, none⟩) (m + 1) c)) (hm : m ≤ 1000000) (hbv : w.cell? ⟨g, m * 4 + 2, none⟩ = some (.slice (some ⟨gb, 0, none⟩) (d + 1) bc)) (hd : d ≤ 1000000) (hc : w.cell? ⟨gb, d * 2 + 1, none⟩ = some iv) (hfz : w.frozen? ⟨gb, d * 2 + 1, none⟩ = false) (hne : iv.ownBlock ≠ some gb) (hrow : w.ownsRow base 39 3 iv n xs) (hb : base ≤ w.heap.size) (hn : n ≤ 1000000) :
    Calls Try.prog 30 #[.pointer (some ⟨R, 0, none⟩), .agg #[.int .i64 l, .int .i64 e, .slice sa sn sc]] w (AddPost w ⟨gb, d * 2 + 1, none⟩ n base iv xs [.int .i64 l, .int .i64 e, .slice sa sn sc]) := by
  obtain ⟨i0, hi, hz0, hz1, hz2⟩ := info_parts infoItem
  have hlt := lt_of_cell hc
  have HI := Lib.hid hi
  have HZ0 := Lib.hid hz0
  have HZ1 := Lib.hid hz1
  have HZ2 := Lib.hid hz2
  clear hi hz0 hz1 hz2
  go_enter Try.func30, Try.ntmps30
  go_wp2_with fail
  have hG00 := Gr.alloc w iv (.cells #[.int .i64 l, .int .i64 e, .slice sa sn sc] 39)
  have hcT := Lib.cell?_alloc_some (.cells #[.int .i64 l, .int .i64 e, .slice sa sn sc] 39) ht
  refine (top_cons R g m c _ hcT hm).mono ?_
  rintro e1 w' ⟨rfl, q, rfl⟩
  have hG0 := hG00.trans (Gr.drewN _ iv q)
  have hbox : ((w.alloc (.cells #[.int .i64 l, .int .i64 e, .slice sa sn sc] 39)).drewN q).heap[w.heap.size]? = some (.cells #[.int .i64 l, .int .i64 e, .slice sa sn sc] 39 (0, 0)) := heap_alloc_new w _
  have hrW : ((w.alloc (.cells #[.int .i64 l, .int .i64 e, .slice sa sn sc] 39)).drewN q).ownsRow base 39 3 iv n xs := hrow.alloc (.cells #[.int .i64 l, .int .i64 e, .slice sa sn sc] 39)
  have hcB : ((w.alloc (.cells #[.int .i64 l, .int .i64 e, .slice sa sn sc] 39)).drewN q).cell? ⟨g, m * 4 + 2, none⟩ = some (.slice (some ⟨gb, 0, none⟩) (d + 1) bc) := Lib.cell?_alloc_some (.cells #[.int .i64 l, .int .i64 e, .slice sa sn sc] 39) hbv
  generalize ((w.alloc (.cells #[.int .i64 l, .int .i64 e, .slice sa sn sc] 39)).drewN q) = W at hG0 hbox hrW hcB ⊢
  clear hcT hG00
  have z2 : (0 : Int) ≤ d := by omega
  have z3 : (d : Int) < d + 1 := by omega
  have z4 : IntKind.i64.wrap (d : Int) = d := IntWalk.i64_in _ (by omega)
  have z5 : IntKind.i64.wrap ((d : Int) + 1 - 1) = d := by rw [IntWalk.i64_in _ (by omega)]; omega
  go_wp2_with fail
  have hblk := hG0.block hlt hne
  have c1 := (World.cell?_of_block (w := w) (a := ⟨gb, d * 2 + 1, none⟩) hblk).trans hc
  have fz1 := (World.frozen?_of_block (w := w) (a := ⟨gb, d * 2 + 1, none⟩) hblk).trans hfz
  have b0 : W.cell? ⟨w.heap.size, 0, none⟩ = some (.int .i64 l) := by simp [World.cell?, hbox]
  have b1 : W.cell? ⟨w.heap.size, 1, none⟩ = some (.int .i64 e) := by simp [World.cell?, hbox]
  have b2 : W.cell? ⟨w.heap.size, 2, none⟩ = some (.slice sa sn sc) := by simp [World.cell?, hbox]
  have hRl := lt_of_cell c1
  have hbl := lt_of_block hbox
  have hsz0 := hG0.g.size
  have HG0 := Lib.hid hG0
  have HRW := Lib.hid hrW
  have HC := Lib.hid hc
  have HFZ := Lib.hid hfz
  have HNE := Lib.hid hne
  have h1c : ∀ u ∈ [Value.int .i64 l, .int .i64 e, .slice sa sn sc], u.oneCell' = true := by simp [Value.oneCell']
  have H1C := Lib.hid h1c
  have hbase0 : base ≤ ((W.alloc (.cells #[.int .i64 l, .int .i64 e, .slice sa sn sc] 39)).drew).heap.size := by simp; omega
  clear h1c hG0 hrW hc hfz hne hblk hbox
  go_region_law ((refine step_append_lies _ rfl (.tmp 37) (.tmp 39) 24 rfl base 39 i0 _ 3 40 Try.underlying24 HI.out HZ0.out HZ1.out HZ2.out rfl (by omega) iv n xs rfl ?_ ⟨W.heap.size, 0, none⟩ 1 1 [.int .i64 l, .int .i64 e, .slice sa sn sc] rfl rfl ?_ H1C.out (by omega) (by unfold maxLen; omega) (by omega) ?_ (W.heap.size + 1) ?_ ?_; exact ((HRW.out.alloc _).drew); exact news3 _ _ _ _ _; exact hbase0; simp; intro g5 cap w1 hown hgrow hat hlt1; have hG1 := HG0.out.trans (((Gr.alloc _ _ _).trans (Gr.drew _ _)).trans (Gr.lies (n := n + 1) (cap := cap) hgrow (by simpa using hat))); have hc1w := (World.cell?_of_block (w := w) (a := ⟨gb, d * 2 + 1, none⟩) (hG1.block hlt HNE.out)).trans HC.out; have hfzw := (World.frozen?_of_block (w := w) (a := ⟨gb, d * 2 + 1, none⟩) (hG1.block hlt HNE.out)).trans HFZ.out))
  all_goals
    exact bodyPost_ret (v := .tuple #[]) (by simp [results, Try.results30, go_sem]) rfl ⟨rfl, _, w1, hG1, hown, rfl⟩

end Go.Proofs.Ytjmbchemdcmegaa
