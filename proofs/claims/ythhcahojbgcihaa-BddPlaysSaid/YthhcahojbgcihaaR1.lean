/- What is proved: what the document's tables come to. -/
import Derived.Test.YthhcahojbgcihaaAwake
namespace Go.Proofs.Ythhcahojbgcihaa
open Go.RowKit Bd

def rowOf (g : Nat → Bool) (k : Nat) : List Value := (List.range k).map fun s => .bool (g s)
theorem rowOf_succ (g : Nat → Bool) (k : Nat) : rowOf g (k + 1) = rowOf g k ++ [.bool (g k)] := by simp [rowOf, List.range_succ]
theorem rowOf_length (g : Nat → Bool) (k : Nat) : (rowOf g k).length = k := by simp [rowOf]
theorem rowOf_at (g : Nat → Bool) {k i : Nat} (h : i < k) : (rowOf g k)[i]? = some (.bool (g i)) := by simp [rowOf, h]

/-- A table: for each number below n what g says. -/
def Tab (w : World) (B : Nat) (v : Value) (n : Nat) (g : Nat → Bool) : Prop := w.ownsRow B 4 1 v n (rowOf g n)

theorem info4 : ∃ i, Try.prog.info? 4 = some i ∧ i.zero = some (.bool false) ∧ i.size = 1 ∧ i.bytes = 1 := ⟨_, rfl, by kernel_rfl, by kernel_rfl, by kernel_rfl⟩

theorem Tab.next {w1 : World} {B k g' cap : Nat} {g : Nat → Bool} (b : Bool) (hb : b = g k) (h : w1.ownsRow B 4 1 (.slice (some ⟨g', 0, none⟩) (k + 1) cap) (k + 1) (rowOf g k ++ [.bool b])) : Tab w1 B (.slice (some ⟨g', 0, none⟩) (k + 1) cap) (k + 1) g := by
  unfold Tab
  rw [rowOf_succ, ← hb]
  exact h

theorem below_grown {w wr w1 : World} {e : TypeId} {size n : Nat} {v : Value} {xs : List Value} {o : Obj} (hb : Below w.heap.size w wr) (hT : wr.ownsRow w.heap.size e size v n xs) (hg : (wr.alloc o).grownBy w1 v.ownBlock) : Below w.heap.size w w1 :=
  (hb.alloc hb.size o).grown hg (by have := hb.size; simp; omega) fun k hk => (hT.lt k hk).1

def GivesTab (w : World) (n : Nat) (g : Nat → Bool) (e : Ending) (w' : World) : Prop := ∃ t, e = .returned t ∧ Tab w' w.heap.size t n g ∧ Below w.heap.size w w'

theorem one_bool (b : Bool) : ∀ u ∈ [Value.bool b], u.oneCell' = true := by simp [Value.oneCell']

set_option maxHeartbeats 1000000 in
theorem same_any (v : Nat) (hv : v ≤ 8) (to : Bool) (w : World) : Calls Try.prog 30 #[.int .i64 (v : Int), .bool to] w (GivesTab w (2 ^ v) (fun _ => to)) := by
  obtain ⟨ti, hti, htz, hts, htb⟩ := info4
  have HTI := Lib.hid hti
  have HTZ := Lib.hid htz
  have HTS := Lib.hid hts
  have HTB := Lib.hid htb
  clear hti htz hts htb
  have hp8 := pow8 hv
  have hpe : ((2 ^ v : Nat) : Int) = 2 ^ v := by simp
  have k4 : (v : Int) ≤ 64 := by omega
  have k6 : IntKind.i64.wrap ((2 : Int) ^ v) = ((2 ^ v : Nat) : Int) := by
    rw [← hpe]
    exact wrapped _ (by omega)
  clear hpe
  generalize 2 ^ v = N at hp8 k6 ⊢
  go_enter Try.func30, Try.ntmps30
  go_wp2_with fail
  go_loopw [5, 6] (fun t i wr => ∃ k : Nat, k ≤ N ∧ i = .int .i64 k ∧ Tab wr w.heap.size t k (fun _ => to) ∧ Below w.heap.size w wr) (fun _ i _ => N - (intOf i).toNat)
  case atStart => exact ⟨0, Nat.zero_le _, rfl, World.ownsRow_nil _ _ _ _, Below.refl _ _⟩
  case round =>
    obtain ⟨k, hk, rfl, hT, hb⟩ := hrel
    have HT := Lib.hid hT
    clear hT
    by_cases hlt : k < N
    · have hlt' : (k : Int) < (N : Int) := by omega
      go_wp2_with (at_builtin; refine wpList_append_lies _ rfl _ _ 37 rfl w.heap.size 4 ti _ 1 1 Try.underlying37 HTI.out HTZ.out HTS.out HTB.out rfl (by omega) _ k (rowOf (fun _ => to) k) rfl ?_ ⟨wr.heap.size, 0, none⟩ 1 1 [.bool to] rfl rfl (cell_one_new _ _ _) (one_bool _) (by omega) (by unfold maxLen; omega) (by omega) ?_ _ rfl ?_; exact (HT.out).alloc _; (have := hb.size; simp; omega); intro g cap w1 hown hgrow hat hlt1)
      go_roundw
      case rel => exact ⟨k + 1, by omega, by go_num, Tab.next to rfl hown, below_grown hb HT.out hgrow⟩
      case measure => simp [intOf]; omega
    · obtain rfl : k = N := by omega
      go_wp2_with fail
      go_ret
      exact ⟨_, rfl, HT.out, hb⟩

theorem bit_eq {s k : Nat} (hs : s < 256) : (Go.bits .and .i64 ((s : Int) / 2 ^ k) 1 == 1) = Bd.bits s k := by
  have h := sel_bit (k := k) hs 0 1
  unfold sel at h
  cases e1 : (Go.bits .and .i64 ((s : Int) / 2 ^ k) 1 == 1) <;> cases e2 : Bd.bits s k <;> simp [e1, e2] at h ⊢

set_option maxHeartbeats 1000000 in
theorem varT (v i : Nat) (hv : v ≤ 8) (hi : i < v) (w : World) : Calls Try.prog 45 #[.int .i64 (v : Int), .int .i64 (i : Int)] w (GivesTab w (2 ^ v) (fun s => Bd.bits s i)) := by
  obtain ⟨ti, hti, htz, hts, htb⟩ := info4
  have HTI := Lib.hid hti
  have HTZ := Lib.hid htz
  have HTS := Lib.hid hts
  have HTB := Lib.hid htb
  clear hti htz hts htb
  have hp8 := pow8 hv
  have hpe : ((2 ^ v : Nat) : Int) = 2 ^ v := by simp
  have k4 : (v : Int) ≤ 64 := by omega
  have k5 : (i : Int) ≤ 64 := by omega
  have k6 : IntKind.i64.wrap ((2 : Int) ^ v) = ((2 ^ v : Nat) : Int) := by
    rw [← hpe]
    exact wrapped _ (by omega)
  clear hpe
  generalize 2 ^ v = N at hp8 k6 ⊢
  go_enter Try.func45, Try.ntmps45
  go_wp2_with fail
  go_loopw [5, 6] (fun t i' wr => ∃ k : Nat, k ≤ N ∧ i' = .int .i64 k ∧ Tab wr w.heap.size t k (fun s => Bd.bits s i) ∧ Below w.heap.size w wr) (fun _ i' _ => N - (intOf i').toNat)
  case atStart => exact ⟨0, Nat.zero_le _, rfl, World.ownsRow_nil _ _ _ _, Below.refl _ _⟩
  case round =>
    obtain ⟨k, hk, rfl, hT, hb⟩ := hrel
    have HT := Lib.hid hT
    clear hT
    by_cases hlt : k < N
    · have hlt' : (k : Int) < (N : Int) := by omega
      have hbit := bit_eq (k := i) (show k < 256 by omega)
      go_wp2_with (at_builtin; refine wpList_append_lies _ rfl _ _ 37 rfl w.heap.size 4 ti _ 1 1 Try.underlying37 HTI.out HTZ.out HTS.out HTB.out rfl (by omega) _ k (rowOf (fun s => Bd.bits s i) k) rfl ?_ ⟨wr.heap.size, 0, none⟩ 1 1 [.bool _] rfl rfl (cell_one_new _ _ _) (one_bool _) (by omega) (by unfold maxLen; omega) (by omega) ?_ _ rfl ?_; exact (HT.out).alloc _; (have := hb.size; simp; omega); intro g cap w1 hown hgrow hat hlt1)
      go_roundw
      case rel => exact ⟨k + 1, by omega, by go_num, Tab.next _ rfl hown, below_grown hb HT.out hgrow⟩
      case measure => simp [intOf]; omega
    · obtain rfl : k = N := by omega
      go_wp2_with fail
      go_ret
      exact ⟨_, rfl, HT.out, hb⟩

/-- What a table reads as. -/
theorem Tab.form {w : World} {B n : Nat} {v : Value} {g : Nat → Bool} (h : Tab w B v n g) (hn : 0 < n) : ∃ b cap, v = .slice (some ⟨b, 0, none⟩) n cap ∧ b < w.heap.size ∧ n ≤ cap ∧ ∀ i, i < n → w.cell? ⟨b, i, none⟩ = some (.bool (g i)) := by
  have h0 : w.ownsRow B 4 1 v n (rowOf g n) := h
  obtain ⟨b, cap, rfl, _, hlt⟩ := h0.form hn
  have hc : n ≤ cap := by
    rcases h0.2 with ⟨e, _⟩ | ⟨b', cap', cur, hv, _, _, hcap, _⟩
    · cases e
    · injection hv with _ _ e; omega
  exact ⟨b, cap, rfl, hlt, hc, fun i hi => (h0.cellAt i (by omega)).trans (rowOf_at g hi)⟩

set_option maxHeartbeats 2000000 in
theorem iteT (N : Nat) (h0 : 0 < N) (hN : N ≤ 256) (w : World) {B1 B2 B3 : Nat} {c n m : Value} {gc gn gm : Nat → Bool} (hc : Tab w B1 c N gc) (hn : Tab w B2 n N gn) (hm : Tab w B3 m N gm) :
    Calls Try.prog 46 #[c, n, m] w (GivesTab w N (fun s => if gc s then gn s else gm s)) := by
  obtain ⟨ti, hti, htz, hts, htb⟩ := info4
  have HTI := Lib.hid hti
  have HTZ := Lib.hid htz
  have HTS := Lib.hid hts
  have HTB := Lib.hid htb
  clear hti htz hts htb
  obtain ⟨bc, cc, rfl, lc, mc, fc⟩ := hc.form h0
  obtain ⟨bn, cn, rfl, ln, mn, fn⟩ := hn.form h0
  obtain ⟨bm, cm, rfl, lm, mm, fm⟩ := hm.form h0
  have FC := Lib.hid fc
  have FN := Lib.hid fn
  have FM := Lib.hid fm
  clear fc fn fm hc hn hm
  go_enter Try.func46, Try.ntmps46
  go_wp2_with fail
  go_loopw [7, 8] (fun t i' wr => ∃ k : Nat, k ≤ N ∧ i' = .int .i64 k ∧ Tab wr w.heap.size t k (fun s => if gc s then gn s else gm s) ∧ Below w.heap.size w wr) (fun _ i' _ => N - (intOf i').toNat)
  case atStart => exact ⟨0, Nat.zero_le _, rfl, World.ownsRow_nil _ _ _ _, Below.refl _ _⟩
  case round =>
    obtain ⟨k, hk, rfl, hT, hb⟩ := hrel
    have HT := Lib.hid hT
    clear hT
    by_cases hlt : k < N
    · have hlt' : (k : Int) < (N : Int) := by omega
      have qc := (hb.cell (p := ⟨bc, k, none⟩) lc).trans (FC.out k hlt)
      have qn := (hb.cell (p := ⟨bn, k, none⟩) ln).trans (FN.out k hlt)
      have qm := (hb.cell (p := ⟨bm, k, none⟩) lm).trans (FM.out k hlt)
      by_cases e : gc k = true
      · have HE := Lib.hid e
        rw [e] at qc
        clear e
        generalize hz : gn k = z at qn
        have HZ := Lib.hid hz
        clear hz
        cases z
        all_goals
          go_wp2_with (at_builtin; refine wpList_append_lies _ rfl _ _ 37 rfl w.heap.size 4 ti _ 1 1 Try.underlying37 HTI.out HTZ.out HTS.out HTB.out rfl (by omega) _ k (rowOf (fun s => if gc s then gn s else gm s) k) rfl ?_ ⟨wr.heap.size, 0, none⟩ 1 1 [.bool _] rfl rfl (cell_one_new _ _ _) (one_bool _) (by omega) (by unfold maxLen; omega) (by omega) ?_ _ rfl ?_; exact (HT.out).alloc _; (have := hb.size; simp; omega); intro g cap w1 hown hgrow hat hlt1)
          go_roundw
          case rel => exact ⟨k + 1, by omega, by go_num, Tab.next _ (by rw [if_pos HE.out, HZ.out]) hown, below_grown hb HT.out hgrow⟩
          case measure => simp [intOf]; omega
      · have e' : gc k = false := by simpa using e
        have HE := Lib.hid e
        rw [e'] at qc
        clear e e'
        generalize hz : gm k = z at qm
        have HZ := Lib.hid hz
        clear hz
        cases z
        all_goals
          go_wp2_with (at_builtin; refine wpList_append_lies _ rfl _ _ 37 rfl w.heap.size 4 ti _ 1 1 Try.underlying37 HTI.out HTZ.out HTS.out HTB.out rfl (by omega) _ k (rowOf (fun s => if gc s then gn s else gm s) k) rfl ?_ ⟨wr.heap.size, 0, none⟩ 1 1 [.bool _] rfl rfl (cell_one_new _ _ _) (one_bool _) (by omega) (by unfold maxLen; omega) (by omega) ?_ _ rfl ?_; exact (HT.out).alloc _; (have := hb.size; simp; omega); intro g cap w1 hown hgrow hat hlt1)
          go_roundw
          case rel => exact ⟨k + 1, by omega, by go_num, Tab.next _ (by rw [if_neg HE.out, HZ.out]) hown, below_grown hb HT.out hgrow⟩
          case measure => simp [intOf]; omega
    · obtain rfl : k = N := by omega
      go_wp2_with fail
      go_ret
      exact ⟨_, rfl, HT.out, hb⟩
end Go.Proofs.Ythhcahojbgcihaa
