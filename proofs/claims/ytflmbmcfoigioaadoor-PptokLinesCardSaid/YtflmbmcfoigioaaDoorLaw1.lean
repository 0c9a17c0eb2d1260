/- What is proved: PptokPlays and PptokOne answer true, in whatever memory. -/
import Derived.Test.YtflmbmcfoigioaaDoorAwake
namespace Go.Proofs.YtflmbmcfoigioaaDoor
open Go.RowKit Go.Shelf
open Lx (T)

theorem left_short (s : ByteArray) (n : Nat) (h : s.size ≤ n) : (Sp.left 0 s.data.toList).length ≤ n := by
  have := Sp.left_le 0 s.data.toList
  rw [size_list] at this
  omega

set_option maxRecDepth 100000 in
set_option maxHeartbeats 4000000 in
theorem plays_any (f : Int) (s : ByteArray) (hm : s.size ≤ maxLen) (w : World) (hG : Glob w) : Calls Tryd.prog 3 #[.int .i64 f, .string s] w (TruePost w) := by
  unfold maxLen at hm
  have HG := Lib.hid hG
  clear hG
  by_cases hs : s.size ≤ 2000
  · have h1 := Lx.tk_length false (Sp.left 0 s.data.toList)
    have h2 := Lx.pr_length false (Sp.left 0 s.data.toList)
    have h3 := left_short s 2000 hs
    obtain ⟨ts, hts⟩ : ∃ ts, ts = Lx.tk false (Sp.left 0 s.data.toList) := ⟨_, rfl⟩
    rw [← hts] at h1 h2
    have b1 : ts.length ≤ 1000000000 := by omega
    have b2 : (Lx.pr ts).length ≤ 1000000000 := by omega
    have HT := Lib.hid hts
    obtain ⟨P, hP⟩ : ∃ P : ByteArray, P = ⟨(Lx.pr ts).toArray⟩ := ⟨_, rfl⟩
    have HP := Lib.hid hP
    clear h1 h2 h3 hts hP
    go_enter Tryd.func3, Tryd.ntmps3
    go_wp2_with fail
    refine (awake_any _ HG.out).mono ?_
    rintro e w1 ⟨rfl, hB1⟩
    go_wp2_with fail
    refine (tokens_any f s (by omega) _ (HG.out.later hB1)).mono ?_
    rintro e w2 ⟨v, rfl, hv, hB2⟩
    rw [← HT.out] at hv
    replace hB2 := Below.then hB1 hB2
    clear hB1
    go_wp2_with fail
    refine (rtokens_any f s (by omega) _).mono ?_
    rintro e w3 ⟨u, rfl, hu, hB3⟩
    rw [← HT.out] at hu
    replace hv := hv.below hB3
    replace hB3 := Below.then hB2 hB3
    clear hB2
    go_wp2_with fail
    refine (print_any v f ts _ hv b1 b2).mono ?_
    rintro e w4 ⟨rfl, hB4⟩
    rw [← HP.out]
    replace hv := hv.below hB4
    replace hu := hu.below hB4
    replace hB4 := Below.then hB3 hB4
    clear hB3
    go_wp2_with fail
    refine (same_any v u f ts _ hv hu b1).mono ?_
    rintro e w5 ⟨rfl, hB5⟩
    replace hu := hu.below hB5
    replace hB5 := Below.then hB4 hB5
    clear hB4 hv
    go_wp2_with fail
    refine (rprint_any u f ts _ hu b1 b2).mono ?_
    rintro e w' ⟨rfl, rfl⟩
    rw [← HP.out]
    go_wp2_with fail
    go_ret
    exact ⟨rfl, hB5⟩
  · go_enter Tryd.func3, Tryd.ntmps3
    go_wp2_with fail
    refine (awake_any _ HG.out).mono ?_
    rintro e w1 ⟨rfl, hB1⟩
    go_wp2_with fail
    go_ret
    exact ⟨rfl, hB1⟩

set_option maxRecDepth 100000 in
set_option maxHeartbeats 4000000 in
theorem lone_any (s : ByteArray) (hm : s.size ≤ maxLen) (w : World) (hG : Glob w) : Calls Tryd.prog 4 #[.string s] w (TruePost w) := by
  unfold maxLen at hm
  have HG := Lib.hid hG
  clear hG
  by_cases hs : s.size ≤ 500
  · obtain ⟨o, ho⟩ : ∃ o, o = oneOf s.data.toList := ⟨_, rfl⟩
    have HO := Lib.hid ho
    clear ho
    obtain ⟨t, ht⟩ : ∃ t, t = o.getD zeroTok := ⟨_, rfl⟩
    obtain ⟨tx, htx⟩ : ∃ tx : ByteArray, tx = ⟨t.text.toArray⟩ := ⟨_, rfl⟩
    obtain ⟨b, hb⟩ : ∃ b, b = o.isSome := ⟨_, rfl⟩
    have HT := Lib.hid ht
    have HX := Lib.hid htx
    have HBo := Lib.hid hb
    have hq : ∀ W, (Op.equalIn 10000 29 (.agg #[.int .i64 t.kind, .string tx, .int .i64 0, .int .i64 t.fr, .int .i64 t.to, .bool t.bl]) (.agg #[.int .i64 t.kind, .string tx, .int .i64 0, .int .i64 t.fr, .int .i64 t.to, .bool t.bl])).run Tryd.prog W = .ok true W := fun W => run_sameTok _ _ _ _ _ _ W
    clear ht htx hb
    go_enter Tryd.func4, Tryd.ntmps4
    go_wp2_with fail
    refine (awake_any _ HG.out).mono ?_
    rintro e w1 ⟨rfl, hB1⟩
    go_wp2_with fail
    refine (one_any s (by omega) _ (HG.out.later hB1)).mono ?_
    rintro e w2 ⟨rfl, hB2⟩
    rw [← HO.out, ← HBo.out, ← HT.out]
    dsimp only [tokAgg]
    rw [← HX.out]
    replace hB2 := Below.then hB1 hB2
    clear hB1
    have hB3 := hB2.alloc hB2.size (.cells #[.int .i64 t.kind, .string tx, .int .i64 0, .int .i64 t.fr, .int .i64 t.to, .bool t.bl] 29)
    have HB3 := Lib.hid hB3
    clear hB3
    go_wp2_with fail
    refine (rone_any s (by omega) _).mono ?_
    rintro e w3 ⟨rfl, hB4⟩
    rw [← HO.out, ← HBo.out, ← HT.out]
    dsimp only [tokAgg]
    rw [← HX.out]
    have hbk : w3.heap[w2.heap.size]? = some (.cells #[.int .i64 t.kind, .string tx, .int .i64 0, .int .i64 t.fr, .int .i64 t.to, .bool t.bl] 29 (0, 0)) := (hB4.block _ (by simp)).trans (heap_alloc_new w2 _)
    replace hB4 := Below.then HB3.out hB4
    have hlt := lt_of_heap hbk
    have c0 : w3.cell? ⟨w2.heap.size, 0, none⟩ = some (.int .i64 t.kind) := by rw [Lib.cell_of_heap hbk]; rfl
    have c1 : w3.cell? ⟨w2.heap.size, 1, none⟩ = some (.string tx) := by rw [Lib.cell_of_heap hbk]; rfl
    have c2 : w3.cell? ⟨w2.heap.size, 2, none⟩ = some (.int .i64 0) := by rw [Lib.cell_of_heap hbk]; rfl
    have c3 : w3.cell? ⟨w2.heap.size, 3, none⟩ = some (.int .i64 t.fr) := by rw [Lib.cell_of_heap hbk]; rfl
    have c4 : w3.cell? ⟨w2.heap.size, 4, none⟩ = some (.int .i64 t.to) := by rw [Lib.cell_of_heap hbk]; rfl
    have c5 : w3.cell? ⟨w2.heap.size, 5, none⟩ = some (.bool t.bl) := by rw [Lib.cell_of_heap hbk]; rfl
    clear hbk HB3 hB2
    go_wp2_with fail
    go_ret
    exact ⟨ret_bool (by simp), hB4.alloc hB4.size _⟩
  · go_enter Tryd.func4, Tryd.ntmps4
    go_wp2_with fail
    refine (awake_any _ HG.out).mono ?_
    rintro e w1 ⟨rfl, hB1⟩
    go_wp2_with fail
    go_ret
    exact ⟨rfl, hB1⟩
end Go.Proofs.YtflmbmcfoigioaaDoor
