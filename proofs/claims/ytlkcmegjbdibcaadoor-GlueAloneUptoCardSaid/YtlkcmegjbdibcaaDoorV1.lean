/- What is proved: what the document's own escaped tells of a token. -/
import Derived.Test.YtlkcmegjbdibcaaDoorSecs
import Derived.Test.YtlkcmegjbdibcaaDoorY3
namespace Go.Proofs.YtlkcmegjbdibcaaDoor
open Go.RowKit Go.Shelf

namespace Gl
def wrb (b : Bool) (l : List UInt8) : List UInt8 := if b then esc l else l
def isQ (t : K) : Bool := t.kind == 4 || t.kind == 3
theorem wr_wrb (t : K) : wr true t = wrb (isQ t) t.text.data.toList := by
  unfold wr wrb isQ
  rw [Bool.true_and]
theorem wrb_take (b : Bool) (l : List UInt8) (k : Nat) (c : UInt8) (h : l[k]? = some c) : wrb b (l.take (k + 1)) = wrb b (l.take k) ++ (if b ∧ (c = 92 ∨ c = 34) then [92, c] else [c]) := by
  cases b with
  | true => simp only [wrb, if_true, true_and]; exact esc_take l k c h
  | false => simp only [wrb, Bool.false_eq_true, if_false, false_and]; rw [List.take_add_one, h]; rfl
theorem wrb_len (b : Bool) (l : List UInt8) : (wrb b l).length ≤ 2 * l.length := by
  cases b with
  | true => exact esc_len l
  | false => show l.length ≤ _; omega
end Gl

set_option maxRecDepth 100000 in
set_option maxHeartbeats 4000000 in
theorem resc_any (t : K) (w : World) (hl : t.text.size ≤ 400000000) :
    Calls Tryd.prog 24 #[kAgg t] w fun e w' => e = .returned (.string ⟨(Gl.wr true t).toArray⟩) ∧ Below w.heap.size w w' := by
  rw [Gl.wr_wrb]
  obtain ⟨b, hb⟩ : ∃ b, b = Gl.isQ t := ⟨_, rfl⟩
  rw [← hb]
  have HBQ := Lib.hid hb
  obtain ⟨kind, tx, tf, tfr, ten, tbl⟩ := t
  dsimp only at hl ⊢
  obtain ⟨n, hn⟩ : ∃ n, n = tx.size := ⟨_, rfl⟩
  have Hn := Lib.hid hn
  have HL := Lib.hid hl
  clear hb hl hn
  unfold kAgg
  go_enter Tryd.func24, Tryd.ntmps24
  go_wp2_with fail
  have hB0 : Below w.heap.size w (w.alloc (.cells #[.int .i64 kind, .string tx, .int .i64 tf, .int .i64 tfr, .int .i64 ten, .bool tbl] 26)) := (Below.refl _ w).alloc (Nat.le_refl _) _
  have hbox := heap_alloc_new w (.cells #[.int .i64 kind, .string tx, .int .i64 tf, .int .i64 tfr, .int .i64 ten, .bool tbl] 26)
  generalize w.alloc (.cells #[.int .i64 kind, .string tx, .int .i64 tf, .int .i64 tfr, .int .i64 ten, .bool tbl] 26) = W0 at hB0 hbox ⊢
  have HB0 := Lib.hid hB0
  have HBOX := Lib.hid hbox
  clear hB0 hbox
  go_loopw [3, 4] (fun s i wr => ∃ (k : Nat) (acc : List UInt8), i = .int .i64 k ∧ k ≤ n ∧ s = .string ⟨acc.toArray⟩ ∧ acc = Gl.wrb b (tx.data.toList.take k) ∧ Below W0.heap.size W0 wr) (fun _ i _ => n - (intOf i).toNat)
  case atStart => exact ⟨0, [], rfl, Nat.zero_le _, rfl, by cases b <;> rfl, Below.refl _ _⟩
  case round =>
    obtain ⟨k, acc, rfl, hk, rfl, ha, hB⟩ := hrel
    have hbx := (hB.block _ (lt_of_block HBOX.out)).trans HBOX.out
    obtain ⟨x0, x1, x2, x3, x4, x5⟩ := box6_cells hbx
    have hal : acc.length ≤ 800000000 := by
      have h1 := Gl.wrb_len b (tx.data.toList.take k)
      rw [← ha, List.length_take, size_list] at h1
      have := HL.out
      omega
    have HA := Lib.hid ha
    have HB := Lib.hid hB
    clear ha hB hbx x2 x3 x4 x5
    have hnl : n ≤ 400000000 := by rw [Hn.out]; exact HL.out
    by_cases hlt : k < n
    · have hkt : k < tx.size := by rw [← Hn.out]; exact hlt
      obtain ⟨c, hc⟩ : ∃ c, c = tx[k] := ⟨_, rfl⟩
      have hck : tx.data.toList[k]? = some c := by rw [hc, List.getElem?_eq_getElem (by rw [size_list]; exact hkt)]; rfl
      have hstep := Gl.wrb_take b tx.data.toList k c hck
      rw [← HA.out] at hstep
      have y1 : (0 : Int) ≤ k := by omega
      have y2 : (k : Int) < tx.size := by omega
      have y3 : (k : Int) ≤ 400000000 := by omega
      have HST := Lib.hid hstep
      clear hck hstep
      have hcv2 : ∀ w : World, (convert 45 9 (.slice (some ⟨w.heap.size, 0, none⟩) 1 1)).run Tryd.prog (w.alloc (.cells #[.int .u8 92] 5)) = .ok (.string ⟨#[92]⟩) (w.alloc (.cells #[.int .u8 92] 5)) := fun w => conv_one 92 w
      have hcv : ∀ w : World, (convert 45 9 (.slice (some ⟨w.heap.size, 0, none⟩) 1 1)).run Tryd.prog (w.alloc (.cells #[.int .u8 tx[k].toNat] 5)) = .ok (.string ⟨#[c]⟩) (w.alloc (.cells #[.int .u8 tx[k].toNat] 5)) := fun w => by rw [hc]; exact conv_one _ w
      have hcvB : (convert 45 9 (.slice (some ⟨wr.heap.size + 1, 0, none⟩) 1 1)).run Tryd.prog ((wr.alloc (.cells #[.int .u8 92] 5)).alloc (.cells #[.int .u8 tx[k].toNat] 5)) = .ok (.string ⟨#[c]⟩) ((wr.alloc (.cells #[.int .u8 92] 5)).alloc (.cells #[.int .u8 tx[k].toNat] 5)) := by
        have := hcv (wr.alloc (.cells #[.int .u8 92] 5))
        rwa [World.size_alloc] at this
      have had1 : ∀ W, (Op.stringOp .add ⟨acc.toArray⟩ ⟨#[92]⟩).run Tryd.prog W = .ok (.string ⟨(acc ++ [92]).toArray⟩) W := fun W => add_run acc [92] (by simp; omega) W
      have had2 : ∀ W, (Op.stringOp .add ⟨(acc ++ [92]).toArray⟩ ⟨#[c]⟩).run Tryd.prog W = .ok (.string ⟨((acc ++ [92]) ++ [c]).toArray⟩) W := fun W => add_run (acc ++ [92]) [c] (by simp; omega) W
      have had3 : ∀ W, (Op.stringOp .add ⟨acc.toArray⟩ ⟨#[c]⟩).run Tryd.prog W = .ok (.string ⟨(acc ++ [c]).toArray⟩) W := fun W => add_run acc [c] (by simp; omega) W
      have hcc : tx[k] = 92 ∨ (tx[k] ≠ 92 ∧ tx[k] = 34) ∨ (tx[k] ≠ 92 ∧ tx[k] ≠ 34) := by
        by_cases h1 : tx[k] = 92
        · exact .inl h1
        · by_cases h2 : tx[k] = 34
          · exact .inr (.inl ⟨h1, h2⟩)
          · exact .inr (.inr ⟨h1, h2⟩)
      have hkk : kind = 4 ∨ (kind ≠ 4 ∧ kind = 3) ∨ (kind ≠ 4 ∧ kind ≠ 3) := by omega
      rcases hcc with h1 | ⟨h1, h2⟩ | ⟨h1, h2⟩
      · have t1 : ((tx[k].toNat : Int) == 92) = true := u8_eq h1
        have HC92 := Lib.hid (show c = 92 ∨ c = 34 from .inl (by rw [hc, h1]))
        clear h1 hc
        rcases hkk with rfl | ⟨h3, rfl⟩ | ⟨h3, h4⟩
        · have HNX := Lib.hid (show acc ++ [92, c] = Gl.wrb b (tx.data.toList.take (k + 1)) by rw [HST.out, if_pos ⟨by rw [HBQ.out]; rfl, HC92.out⟩])
          go_wp2_with fail
          go_roundw
          case rel => exact ⟨k + 1, _, by go_num, by omega, rfl, HNX.out, (HB.out.alloc HB.out.size _).alloc (Nat.le_trans HB.out.size (by simp)) _⟩
          case measure => simp [intOf]; omega
        · have HNX := Lib.hid (show acc ++ [92, c] = Gl.wrb b (tx.data.toList.take (k + 1)) by rw [HST.out, if_pos ⟨by rw [HBQ.out]; rfl, HC92.out⟩])
          go_wp2_with fail
          go_roundw
          case rel => exact ⟨k + 1, _, by go_num, by omega, rfl, HNX.out, (HB.out.alloc HB.out.size _).alloc (Nat.le_trans HB.out.size (by simp)) _⟩
          case measure => simp [intOf]; omega
        · have t3 : (kind == 4) = false := by simpa using h3
          have t4 : (kind == 3) = false := by simpa using h4
          have HNX := Lib.hid (show acc ++ [c] = Gl.wrb b (tx.data.toList.take (k + 1)) by rw [HST.out, if_neg (fun h => by have := h.1; rw [HBQ.out] at this; simp [Gl.isQ, t3, t4] at this)])
          clear h3 h4
          go_wp2_with fail
          go_roundw
          case rel => exact ⟨k + 1, _, by go_num, by omega, rfl, HNX.out, HB.out.alloc HB.out.size _⟩
          case measure => simp [intOf]; omega
      · have t1 : ((tx[k].toNat : Int) == 92) = false := u8_ne h1
        have t2 : ((tx[k].toNat : Int) == 34) = true := u8_eq h2
        have HC92 := Lib.hid (show c = 92 ∨ c = 34 from .inr (by rw [hc, h2]))
        clear h1 h2 hc
        rcases hkk with rfl | ⟨h3, rfl⟩ | ⟨h3, h4⟩
        · have HNX := Lib.hid (show acc ++ [92, c] = Gl.wrb b (tx.data.toList.take (k + 1)) by rw [HST.out, if_pos ⟨by rw [HBQ.out]; rfl, HC92.out⟩])
          go_wp2_with fail
          go_roundw
          case rel => exact ⟨k + 1, _, by go_num, by omega, rfl, HNX.out, (HB.out.alloc HB.out.size _).alloc (Nat.le_trans HB.out.size (by simp)) _⟩
          case measure => simp [intOf]; omega
        · have HNX := Lib.hid (show acc ++ [92, c] = Gl.wrb b (tx.data.toList.take (k + 1)) by rw [HST.out, if_pos ⟨by rw [HBQ.out]; rfl, HC92.out⟩])
          go_wp2_with fail
          go_roundw
          case rel => exact ⟨k + 1, _, by go_num, by omega, rfl, HNX.out, (HB.out.alloc HB.out.size _).alloc (Nat.le_trans HB.out.size (by simp)) _⟩
          case measure => simp [intOf]; omega
        · have t3 : (kind == 4) = false := by simpa using h3
          have t4 : (kind == 3) = false := by simpa using h4
          have HNX := Lib.hid (show acc ++ [c] = Gl.wrb b (tx.data.toList.take (k + 1)) by rw [HST.out, if_neg (fun h => by have := h.1; rw [HBQ.out] at this; simp [Gl.isQ, t3, t4] at this)])
          clear h3 h4
          go_wp2_with fail
          go_roundw
          case rel => exact ⟨k + 1, _, by go_num, by omega, rfl, HNX.out, HB.out.alloc HB.out.size _⟩
          case measure => simp [intOf]; omega
      · have t1 : ((tx[k].toNat : Int) == 92) = false := u8_ne h1
        have t2 : ((tx[k].toNat : Int) == 34) = false := u8_ne h2
        have HNX := Lib.hid (show acc ++ [c] = Gl.wrb b (tx.data.toList.take (k + 1)) by
          rw [HST.out, if_neg (fun h => by rcases h.2 with e | e; exact h1 (by rw [← hc, e]); exact h2 (by rw [← hc, e]))])
        clear h1 h2 hc hkk
        go_wp2_with fail
        go_roundw
        case rel => exact ⟨k + 1, _, by go_num, by omega, rfl, HNX.out, HB.out.alloc HB.out.size _⟩
        case measure => simp [intOf]; omega
    · have y2 : ¬ (k : Int) < tx.size := by rw [← Hn.out]; omega
      have HNX := Lib.hid (show Gl.wrb b tx.data.toList = acc by rw [HA.out, List.take_of_length_le (by rw [size_list, ← Hn.out]; omega)])
      go_wp2_with fail
      go_ret
      exact ⟨by rw [HNX.out]; rfl, Below.then HB0.out HB.out⟩
end Go.Proofs.YtlkcmegjbdibcaaDoor
