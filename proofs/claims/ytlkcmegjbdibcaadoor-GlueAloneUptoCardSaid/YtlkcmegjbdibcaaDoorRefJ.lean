/- What is proved: what the document's own Join tells of any text. -/
import Derived.Test.YtlkcmegjbdibcaaDoorText
import Derived.OwnWalk
namespace Go.Proofs.YtlkcmegjbdibcaaDoor
open Go.RowKit Go.Shelf

theorem byte_at (s : ByteArray) (k : Nat) (h : k < s.size) : s.data.toList[k]'(by rw [size_list]; exact h) = s[k] := rfl

theorem pair_at (s : ByteArray) (k : Nat) (h : k + 1 < s.size) : Lib.hasPrefix (s.data.toList.drop k) [92, 10] = true ↔ s[k] = 92 ∧ s[k + 1] = 10 := by
  have h1 : k < s.data.toList.length := by rw [size_list]; omega
  have h2 : k + 1 < s.data.toList.length := by rw [size_list]; omega
  rw [List.drop_eq_getElem_cons h1, List.drop_eq_getElem_cons h2, Sp.pair_iff]
  exact Iff.rfl

theorem pair_last (s : ByteArray) (k : Nat) (h : s.size ≤ k + 1) : Lib.hasPrefix (s.data.toList.drop k) [92, 10] = false := by
  have hl : (s.data.toList.drop k).length ≤ 1 := by rw [List.length_drop, size_list]; omega
  match s.data.toList.drop k, hl with
  | [], _ => rfl
  | [c], _ => exact Sp.pair_one c

theorem toNat_eq (a : UInt8) (n : Nat) (hn : n < 256) : ((a.toNat : Int) == (n : Int)) = decide (a = UInt8.ofNat n) := by
  rw [Bool.eq_iff_iff]
  simp only [beq_iff_eq, decide_eq_true_iff]
  constructor
  · intro h
    have h' : a.toNat = n := by omega
    rw [← h']; simp
  · intro h
    rw [h]
    simp
    omega

set_option maxRecDepth 100000 in
set_option maxHeartbeats 1000000 in
theorem refjoin_row (s : ByteArray) (hs : s.size ≤ 4000000000) (w : World) :
    Calls Tryd.prog 46 #[.string s] w fun e W' => ∃ v, e = .returned v ∧ W'.ownsRow w.heap.size 60 2 v (Sp.left 0 s.data.toList).length (cellsC (Sp.left 0 s.data.toList)) ∧ Below w.heap.size w W' := by
  obtain ⟨i0, hi, hz0, hz1, hz2⟩ := info_parts info37
  have hfull := Sp.left_le 0 s.data.toList
  rw [size_list] at hfull
  go_enter Tryd.func46, Tryd.ntmps46
  go_wp2_with fail
  go_loopw [3, 4] (fun v i wr => ∃ (k : Nat) (pre : List Sp.Ch), i = .int .i64 k ∧ Split s.data.toList k pre ∧ wr.ownsRow w.heap.size 60 2 v pre.length (cellsC pre) ∧ Below w.heap.size w wr) (fun _ i _ => s.size - (intOf i).toNat)
  case atStart => exact ⟨0, [], rfl, split_start _, World.ownsRow_nil _ _ _ _, Below.refl _ _⟩
  case round =>
    obtain ⟨k, pre, rfl, hsp, hrow, hB⟩ := hrel
    have hsB := hB.size
    have hkl := hsp.1
    rw [size_list] at hkl
    by_cases hlt : k < s.size
    · have hlt' : k < s.data.toList.length := by rw [size_list]; exact hlt
      cases hp : Lib.hasPrefix (s.data.toList.drop k) [92, 10] with
      | true =>
        obtain ⟨h2, hsp2⟩ := split_pair hsp hp
        rw [size_list] at h2
        obtain ⟨q1, q2⟩ := (pair_at s k (by omega)).1 hp
        have e1 : ((s[k].toNat : Int) == 92) = true := by rw [q1]; rfl
        have e2 : ((s[k + 1].toNat : Int) == 10) = true := by rw [q2]; rfl
        have e3 : k + 1 < s.size := by omega
        clear hp q1 q2
        go_wp2_with fail
        go_roundw
        case rel => exact ⟨k + 2, pre, by go_num, hsp2, hrow, hB⟩
        case measure => simp [intOf]; omega
      | false =>
        obtain ⟨hsp2, hpre, hlen⟩ := split_one hsp hlt' hp
        rw [byte_at s k hlt] at hsp2
        have hcase : ((s[k].toNat : Int) == 92) = false ∨ (((s[k].toNat : Int) == 92) = true ∧ ¬ k + 1 < s.size) ∨ (∃ h : k + 1 < s.size, ((s[k].toNat : Int) == 92) = true ∧ ((s[k + 1].toNat : Int) == 10) = false) := by
          have t1 : ((s[k].toNat : Int) == 92) = decide (s[k] = 92) := toNat_eq s[k] 92 (by decide)
          by_cases e1 : s[k] = 92
          · by_cases e2 : k + 1 < s.size
            · have t2 : ((s[k + 1].toNat : Int) == 10) = decide (s[k + 1] = 10) := toNat_eq s[k + 1] 10 (by decide)
              have e3 : ¬ s[k + 1] = 10 := fun e3 => by rw [(pair_at s k e2).2 ⟨e1, e3⟩] at hp; cases hp
              exact .inr (.inr ⟨e2, by rw [t1, decide_eq_true e1], by rw [t2, decide_eq_false e3]⟩)
            · exact .inr (.inl ⟨by rw [t1, decide_eq_true e1], e2⟩)
          · exact .inl (by rw [t1, decide_eq_false e1])
        clear hp hpre
        rcases hcase with e1 | ⟨e1, e2⟩ | ⟨e2, e1, e3⟩
        all_goals
          go_wp2_with (at_builtin; refine wpList_append_own _ rfl _ _ 53 rfl w.heap.size 60 i0 (.agg #[.int .u8 0, .int .i64 0]) 2 16 Tryd.underlying53 hi hz0 hz1 hz2 rfl (by decide) _ _ _ rfl (hrow.alloc _) ⟨wr.heap.size, 0, none⟩ 1 1 [.int .u8 s[k].toNat, .int .i64 k] rfl rfl (cell_two_new _ _ _ _) (by simp [Value.oneCell']) (by unfold maxLen; omega) (by omega) (by simp; omega) ?_; intro v' w2 hown' hgrow _; obtain ⟨g', cap', rfl⟩ := ownsRow_succ hown')
          go_roundw
          case rel =>
            refine ⟨k + 1, pre ++ [(s[k], k)], by go_num, hsp2, ?_, ?_⟩
            · rw [List.length_append, cellsC_append]; exact hown'
            · exact (hB.alloc hsB _).grown hgrow (by simp; omega) (fun j ej => (hrow.lt j ej).1)
          case measure => simp [intOf]; omega
    · have he := split_end hsp (by rw [size_list]; omega)
      go_wp2_with fail
      go_ret
      rw [← he]
      exact ⟨_, rfl, hrow, hB⟩

theorem refjoin_any (s : ByteArray) (hs : s.size ≤ 4000000000) (w : World) : Calls Tryd.prog 46 #[.string s] w (JoinPost w s.data.toList) :=
  (refjoin_row s hs w).mono fun _ _ ⟨v, h1, h2, h3⟩ => ⟨v, h1, Chars.of_row h2, h3⟩
end Go.Proofs.YtlkcmegjbdibcaaDoor
