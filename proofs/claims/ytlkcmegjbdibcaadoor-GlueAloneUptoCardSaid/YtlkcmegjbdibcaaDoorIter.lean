/- What is proved: what the iterator over a text without pairs tells, round by round. -/
import Derived.RangeFuncNested
import Derived.RangeFuncBound
import Derived.RangeFuncCalls
import Derived.RangeFuncLeaves
import Derived.Shelf.Abstract
import Derived.Shelf.RegionOpen
import Derived.WalkKit
import Derived.OwnWalkIn
import Derived.TacticsInMore
import Derived.LoopNIn
import Derived.LoopIn
import Derived.Lib.Hide
import Derived.Test.YtlkcmegjbdibcaaDoorShelf
namespace Go.Proofs.YtlkcmegjbdibcaaDoor
open Go.RowKit Go.Shelf

attribute [local go_sem] Oper.semAt_some

/-- One block lies as it lay. -/
def KeepB (b : Nat) (W W' : World) : Prop := W'.heap[b]? = W.heap[b]?
theorem KeepB.refl (b : Nat) (W : World) : KeepB b W W := rfl
theorem KeepB.trans {b : Nat} {A B C : World} (h : KeepB b A B) (k : KeepB b B C) : KeepB b A C := Eq.trans k h
theorem KeepB.cell {b : Nat} {W W' : World} (h : KeepB b W W') {v : Value} (hc : W.cell? ⟨b, 0, none⟩ = some v) : W'.cell? ⟨b, 0, none⟩ = some v :=
  (World.cell?_of_block (a := ⟨b, 0, none⟩) h).trans hc
theorem KeepB.put {b : Nat} {w : World} (hb : b < w.heap.size) (W : World) (l : Nat) (o o' : Obj) (hl : w.heap.size ≤ l) (_ : W.heap[l]? = some o) (_ : o.isCells = false) (_ : o.isWalk = false) : KeepB b W (W.putObj l o') :=
  World.putObj_heap_other (by omega)
theorem KeepB.below {b n : Nat} {W W' : World} (h : Below n W W') (hb : b < n) : KeepB b W W' := h.block b hb

/-- A byte with its place, as a value. -/
def chV (x : Sp.Ch) : Value := .agg #[.int .u8 x.1.toNat, .int .i64 x.2]

/-- What has come when the text is passed up to place k, and what is still to come. -/
def Split (t : List UInt8) (k : Nat) (pre : List Sp.Ch) : Prop := k ≤ t.length ∧ Sp.left 0 t = pre ++ Sp.left k (t.drop k)

theorem split_start (t : List UInt8) : Split t 0 [] := ⟨Nat.zero_le _, by simp⟩
theorem split_end {t : List UInt8} {k : Nat} {pre : List Sp.Ch} (h : Split t k pre) (hk : t.length ≤ k) : pre = Sp.left 0 t := by
  rw [h.2, List.drop_of_length_le hk, Sp.left_nil]; simp
theorem split_pair {t : List UInt8} {k : Nat} {pre : List Sp.Ch} (h : Split t k pre) (hp : Lib.hasPrefix (t.drop k) [92, 10] = true) : k + 2 ≤ t.length ∧ Split t (k + 2) pre := by
  obtain ⟨r, e⟩ := Sp.pair_form _ hp
  have hl : (t.drop k).length = r.length + 2 := by rw [e]; rfl
  rw [List.length_drop] at hl
  refine ⟨by omega, by omega, ?_⟩
  have : t.drop (k + 2) = r := by rw [← List.drop_drop, e]; rfl
  rw [h.2, e, Sp.left_pair, this]
theorem split_one {t : List UInt8} {k : Nat} {pre : List Sp.Ch} (h : Split t k pre) (hk : k < t.length) (hp : Lib.hasPrefix (t.drop k) [92, 10] = false) :
    Split t (k + 1) (pre ++ [(t[k], k)]) ∧ pre ++ [(t[k], k)] <+: Sp.left 0 t ∧ pre.length < (Sp.left 0 t).length := by
  have e : t.drop k = t[k] :: t.drop (k + 1) := List.drop_eq_getElem_cons hk
  rw [e] at hp
  have h2 : Sp.left 0 t = pre ++ [(t[k], k)] ++ Sp.left (k + 1) (t.drop (k + 1)) := by rw [h.2, e, Sp.left_one k _ _ hp]; simp
  exact ⟨⟨by omega, h2⟩, ⟨_, h2.symm⟩, by rw [h2]; simp⟩

set_option maxRecDepth 100000 in
set_option maxHeartbeats 1000000 in
theorem left1_in (n : Nat) (hn : 1 ≤ n) (l Bn : Nat) (s : ByteArray) (hs : s.size ≤ 4000000000) (J Jx : List Sp.Ch → World → Prop)
    (hY : ∀ pre x W, J pre W → pre.length < (Sp.left 0 s.data.toList).length → YieldAt Fence.wide (n - 1) Tryd.prog l #[chV x] W fun e W' =>
      (e = .returned (.bool true) ∧ J (pre ++ [x]) W' ∧ KeepB Bn W W') ∨ (e = .returned (.bool false) ∧ Jx (pre ++ [x]) W'))
    (W : World) (hBn : W.cell? ⟨Bn, 0, none⟩ = some (.string s)) (h0 : J [] W) :
    CallsIn Fence.wide n Tryd.prog 52 #[.func (.yield l) #[] #[], .pointer (some ⟨Bn, 0, none⟩)] W fun e W' => (∃ v, e = .returned v) ∧
      ((∃ ys, ys = Sp.left 0 s.data.toList ∧ J ys W') ∨ (∃ pre, pre <+: Sp.left 0 s.data.toList ∧ Jx pre W')) := by
  refine callsIn_of_wp Tryd.func52 rfl trivial ?_ rfl
  simp only [Tryd.ntmps52, List.size_toArray, List.length_cons, List.length_nil, Nat.reduceAdd, Nat.reduceSub, Array.replicate_succ, Array.replicate_zero, List.push_toArray, List.append_toArray, List.nil_append, List.cons_append]
  gi_wp2
  gi_loopw [3] (fun p wr => ∃ (k : Nat) (pre : List Sp.Ch), p = .int .i64 k ∧ Split s.data.toList k pre ∧ wr.cell? ⟨Bn, 0, none⟩ = some (.string s) ∧ J pre wr)
    (fun p _ => s.size - (intOf p).toNat)
  case atStart => exact ⟨0, [], rfl, split_start _, hBn, h0⟩
  case round =>
    obtain ⟨k, pre, rfl, hsp, hc, hJ⟩ := hrel
    have hkl := hsp.1
    rw [size_list] at hkl
    by_cases hlt : k < s.size
    · have hlt' : k < s.data.toList.length := by rw [size_list]; exact hlt
      cases hp : Lib.hasPrefix (s.data.toList.drop k) [92, 10] with
      | true =>
        obtain ⟨h2, hsp2⟩ := split_pair hsp hp
        rw [size_list] at h2
        have HP := Lib.hid hp
        clear hp
        gi_wp2_with fail
        refine ⟨trivial, (callsIn_wide.2 (prefix_any _ ⟨#[92, 10]⟩ _)).mono ?_⟩
        rintro e w' ⟨rfl, rfl⟩
        rw [Lib.extract_to_end, HP.out]
        gi_wp2_with fail
        go_roundw
        case rel => exact ⟨k + 2, pre, by go_num, hsp2, hc, hJ⟩
        case measure => simp [intOf]; omega
      | false =>
        obtain ⟨hsp2, hpre, hlen⟩ := split_one hsp hlt' hp
        have HP := Lib.hid hp
        clear hp
        obtain ⟨fn, tmps, assign, body, hy, hR⟩ := hY pre (s.data.toList[k], k) wr hJ hlen
        dsimp only [chV] at hy
        rw [show s.data.toList[k] = s[k] from rfl] at hy
        gi_wp2_with fail
        refine ⟨trivial, (callsIn_wide.2 (prefix_any _ ⟨#[92, 10]⟩ _)).mono ?_⟩
        rintro e w' ⟨rfl, rfl⟩
        rw [Lib.extract_to_end, HP.out]
        gi_wp2_with fail
        refine hR.mono ?_
        rintro e W3 (⟨rfl, hJ3, hk3⟩ | ⟨rfl, hJx3⟩)
        · have hc3 : W3.cell? ⟨Bn, 0, none⟩ = some (.string s) := hk3.cell hc
          gi_wp2_with fail
          go_roundw
          case rel => exact ⟨k + 1, _, by go_num, hsp2, hc3, hJ3⟩
          case measure => simp [intOf]; omega
        · gi_wp2_with fail
          refine bodyPost_ret (results_none rfl _ _ _) rfl ?_
          exact ⟨⟨_, rfl⟩, .inr ⟨_, hpre, hJx3⟩⟩
    · gi_wp2_with fail
      go_end0
      exact ⟨⟨_, rfl⟩, .inl ⟨pre, split_end hsp (by rw [size_list]; omega), hJ⟩⟩

set_option maxHeartbeats 1000000 in
theorem left_in (n : Nat) (s : ByteArray) (w : World) :
    CallsIn Fence.wide n Tryd.prog 37 #[.string s] w fun e w' => e = .returned (.func (.func 52) #[] #[.pointer (some ⟨w.heap.size, 0, none⟩)]) ∧ w' = w.alloc (.cells #[.string s] 9) := by
  refine callsIn_of_wp Tryd.func37 rfl trivial ?_ rfl
  simp only [Tryd.ntmps37, List.size_toArray, List.length_cons, List.length_nil, Nat.reduceAdd, Nat.reduceSub, Array.replicate_succ, Array.replicate_zero, List.push_toArray, List.append_toArray, List.nil_append, List.cons_append]
  gi_wp2
  go_ret
  exact ⟨rfl, rfl⟩

theorem left_stops (n : Nat) (hn : 1 ≤ n) (Bn : Nat) (s : ByteArray) (hs : s.size ≤ 4000000000) (w : World) (hBn : Bn < w.heap.size)
    (hc : w.cell? ⟨Bn, 0, none⟩ = some (.string s)) :
    SeqStopsK Fence.wide n Tryd.prog 52 #[.pointer (some ⟨Bn, 0, none⟩)] (fun x : Sp.Ch => #[chV x]) (KeepB Bn) (fun ys => ys = Sp.left 0 s.data.toList) (fun pre => pre <+: Sp.left 0 s.data.toList) (Sp.left 0 s.data.toList).length w := fun l J Jx W hW _ _ hY h0 =>
  left1_in n hn l Bn s hs J Jx hY W ((hW.cell (p := ⟨Bn, 0, none⟩) hBn).trans hc) h0
end Go.Proofs.YtlkcmegjbdibcaaDoor
