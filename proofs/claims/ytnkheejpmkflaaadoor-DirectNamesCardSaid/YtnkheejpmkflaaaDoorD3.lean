/- What is proved: what the iterator over lines tells, round by round. -/
import Derived.Test.YtnkheejpmkflaaaDoorD2
namespace Go.Proofs.YtnkheejpmkflaaaDoor
open Go.RowKit Go.Shelf

attribute [local go_sem] Oper.semAt_some

/-- One block, and all up to another one, lie as they lay. -/
def KeepS (b m : Nat) (W W' : World) : Prop := W'.heap[b]? = W.heap[b]? ∧ ∀ k, k < m → W'.heap[k]? = W.heap[k]?
theorem KeepS.refl (b m : Nat) (W : World) : KeepS b m W W := ⟨rfl, fun _ _ => rfl⟩
theorem KeepS.trans {b m : Nat} {A B C : World} (h : KeepS b m A B) (k : KeepS b m B C) : KeepS b m A C := ⟨k.1.trans h.1, fun i hi => (k.2 i hi).trans (h.2 i hi)⟩
theorem KeepS.cell {b m : Nat} {W W' : World} (h : KeepS b m W W') {v : Value} (hc : W.cell? ⟨b, 0, none⟩ = some v) : W'.cell? ⟨b, 0, none⟩ = some v :=
  (World.cell?_of_block (a := ⟨b, 0, none⟩) h.1).trans hc
theorem KeepS.put {b m : Nat} {w : World} (hb : b < w.heap.size) (hm : m ≤ w.heap.size) (W : World) (l : Nat) (o o' : Obj) (hl : w.heap.size ≤ l) (_ : W.heap[l]? = some o) (_ : o.isCells = false) (_ : o.isWalk = false) : KeepS b m W (W.putObj l o') :=
  ⟨World.putObj_heap_other (by omega), fun _ _ => World.putObj_heap_other (by omega)⟩

/-- Where a line stands among tokens. -/
abbrev Cut (ts : List K) := { c : Nat × Nat // c.1 < ts.length ∧ c.1 + c.2 ≤ ts.length }

theorem grown_new (W : World) (o : Obj) : W.grownBy (W.alloc o) none := World.grownBy_alloc W o none

/-- The tokens of a slice lie below a block. -/
def Under (v : Value) (m : Nat) : Prop := ∀ g o n cap, v = .slice (some ⟨g, o, none⟩) n cap → g < m

set_option maxRecDepth 100000 in
set_option maxHeartbeats 4000000 in
theorem places1_in (n : Nat) (hn : 1 ≤ n) (l Bn m : Nat) (v : Value) (ts : List K) (hl : ts.length * 56 ≤ 140737488355328) (hu : 0 < ts.length → Under v m) (J Jx : List (Cut ts) → World → Prop)
    (hY : ∀ pre (x : Cut ts) W, J pre W → pre.length < (Dx.cuts 0 0 ts).length → YieldAt Fence.wide (n - 1) Tryd.prog l #[.int .i64 x.1.1, .int .i64 x.1.2] W fun e W' =>
      (e = .returned (.bool true) ∧ J (pre ++ [x]) W' ∧ KeepS Bn m W W') ∨ (e = .returned (.bool false) ∧ Jx (pre ++ [x]) W'))
    (W : World) (hJ : AbidesFrom W.heap.size J) (hBn : W.cell? ⟨Bn, 0, none⟩ = some v) (hv : Ks W v ts) (h0 : J [] W) :
    CallsIn Fence.wide n Tryd.prog 37 #[.func (.yield l) #[] #[], .pointer (some ⟨Bn, 0, none⟩)] W fun e W' => (∃ v, e = .returned v) ∧
      ((∃ ys, ys.map Subtype.val = Dx.cuts 0 0 ts ∧ J ys W') ∨ (∃ pre, pre.map Subtype.val <+: Dx.cuts 0 0 ts ∧ Jx pre W')) := by
  obtain ⟨ad, cap, rfl, hc1, hc2, -⟩ := id hv
  unfold maxLen at hc2
  rcases Nat.eq_zero_or_pos ts.length with hz | hpos
  · have hts : ts = [] := List.length_eq_zero_iff.1 hz
    subst hts
    refine callsIn_of_wp Tryd.func37 rfl trivial ?_ rfl
    simp only [Tryd.ntmps37, List.size_toArray, List.length_cons, List.length_nil, Nat.reduceAdd, Nat.reduceSub, Array.replicate_succ, Array.replicate_zero, List.push_toArray, List.append_toArray, List.nil_append, List.cons_append]
    clear hv hu
    gi_wp2
    gi_loopw [3, 8] (fun f k wr => f = .int .i64 0 ∧ k = .int .i64 0 ∧ wr.cell? ⟨Bn, 0, none⟩ = some (.slice ad 0 cap) ∧ J [] wr) (fun _ _ _ => 0)
    case atStart => exact ⟨rfl, rfl, hBn, h0⟩
    case round =>
      obtain ⟨rfl, rfl, hc, hj⟩ := hrel
      gi_wp2_with fail
      go_end0
      exact ⟨⟨_, rfl⟩, .inl ⟨[], rfl, hj⟩⟩
  · obtain ⟨g, o, rfl, -, -, -, -, hcell⟩ := hv.cells hpos
    have hg : g < m := hu hpos g o _ _ rfl
    refine callsIn_of_wp Tryd.func37 rfl trivial ?_ rfl
    simp only [Tryd.ntmps37, List.size_toArray, List.length_cons, List.length_nil, Nat.reduceAdd, Nat.reduceSub, Array.replicate_succ, Array.replicate_zero, List.push_toArray, List.append_toArray, List.nil_append, List.cons_append]
    obtain ⟨N, hN⟩ : ∃ N, N = ts.length := ⟨_, rfl⟩
    rw [← hN] at hl hc1 hpos hBn
    have HN := Lib.hid hN
    have HC := Lib.hid hcell
    clear hN hv hu hcell
    gi_wp2
    gi_loopw [3, 8] (fun f3 f8 wr => ∃ (f k : Nat) (pre : List (Cut ts)), f3 = .int .i64 f ∧ f8 = .int .i64 k ∧ Dx.At ts f k (pre.map Subtype.val) ∧ wr.cell? ⟨Bn, 0, none⟩ = some (.slice (some ⟨g, o, none⟩) N cap) ∧ wr.heap[g]? = W.heap[g]? ∧ J pre wr)
      (fun _ p _ => N - (intOf p).toNat)
    case atStart => exact ⟨0, 0, [], rfl, rfl, Dx.at_start ts, hBn, rfl, h0⟩
    case round =>
      obtain ⟨f, k, pre, rfl, rfl, hat, hc, hgb, hj⟩ := hrel
      have hfk := hat.1
      have hkN := hat.2.1
      rw [← HN.out] at hkN
      by_cases hlt : k < N
      · obtain ⟨t, ht⟩ : ∃ t, ts[k]? = some t := ⟨_, List.getElem?_eq_getElem (by rw [← HN.out]; exact hlt)⟩
        have hk0 := (HC.out k t ht).kept hgb
        obtain ⟨kd, tx, fl, fr, en, bl⟩ := t
        obtain ⟨c0, c1, c2, c3, c4, c5⟩ := hk0
        dsimp only at c0 c1 c2 c3 c4 c5
        have hja := hJ pre wr _ none hj (grown_new wr (.cells #[.int .i64 kd, .string tx, .int .i64 fl, .int .i64 fr, .int .i64 en, .bool bl] 40)) (fun r e => by cases e)
        have hgs : g < wr.heap.size := lt_of_cell c0
        by_cases hkd : kd = 7
        · subst hkd
          obtain ⟨hat2, hpre, hlen⟩ := Dx.at_cut hat ht rfl
          have hok : f < ts.length ∧ f + (k - f) ≤ ts.length := by rw [← HN.out]; omega
          rw [List.length_map] at hlen
          obtain ⟨fn, tmps, assign, body, hy, hR⟩ := hY pre ⟨(f, k - f), hok⟩ _ hja hlen
          have ek : (((f, k - f) : Nat × Nat).2 : Int) = (k : Int) - f := by show ((k - f : Nat) : Int) = _; omega
          dsimp only at hy
          rw [show ((k - f : Nat) : Int) = (k : Int) - f by omega] at hy
          have HA := Lib.hid hat2
          have HPre := Lib.hid hpre
          clear hat2 hpre ek hat
          gi_wp2_with fail
          refine hR.mono ?_
          rintro e W3 (⟨rfl, hJ3, hk3⟩ | ⟨rfl, hJx3⟩)
          · have hc3 := hk3.cell (Lib.cell?_alloc_some (.cells #[.int .i64 7, .string tx, .int .i64 fl, .int .i64 fr, .int .i64 en, .bool bl] 40) hc)
            have hg3 := hk3.2 g hg
            gi_wp2_with fail
            go_roundw
            case rel => exact ⟨k + 1, k + 1, pre ++ [⟨(f, k - f), hok⟩], by go_num, by go_num, by rw [List.map_append]; exact HA.out, hc3, hg3.trans ((Below.heap_alloc _ _ _ hgs).trans hgb), hJ3⟩
            case measure => simp [intOf]; omega
          · gi_wp2_with fail
            refine bodyPost_ret (results_none rfl _ _ _) rfl ?_
            exact ⟨⟨_, rfl⟩, .inr ⟨_, by rw [List.map_append]; exact HPre.out, hJx3⟩⟩
        · have hat2 := Dx.at_skip hat ht hkd
          have t1 : (kd != 7) = true := by simpa using hkd
          have HA := Lib.hid hat2
          clear hat2 hat
          gi_wp2_with fail
          go_roundw
          case rel => exact ⟨f, k + 1, pre, rfl, by go_num, HA.out, Lib.cell?_alloc_some _ hc, (Below.heap_alloc _ _ _ hgs).trans hgb, hja⟩
          case measure => simp [intOf]; omega
      · obtain ⟨he1, he2⟩ := Dx.at_endN hat HN.out (by omega)
        have H1 := Lib.hid he1
        have H2 := Lib.hid he2
        clear he1 he2
        by_cases hf : f < N
        · obtain ⟨hcu, hlen⟩ := H1.out hf
          rw [List.length_map] at hlen
          have hok : f < ts.length ∧ f + (N - f) ≤ ts.length := by rw [← HN.out]; omega
          obtain ⟨fn, tmps, assign, body, hy, hR⟩ := hY pre ⟨(f, N - f), hok⟩ _ hj hlen
          dsimp only at hy
          rw [show ((N - f : Nat) : Int) = (N : Int) - f by omega] at hy
          have HCu := Lib.hid hcu
          clear hcu hat
          gi_wp2_with fail
          refine hR.mono ?_
          rintro e W3 (⟨rfl, hJ3, hk3⟩ | ⟨rfl, hJx3⟩)
          · gi_wp2_with fail
            go_end0
            exact ⟨⟨_, rfl⟩, .inl ⟨pre ++ [⟨(f, N - f), hok⟩], by rw [List.map_append, HCu.out]; rfl, hJ3⟩⟩
          · gi_wp2_with fail
            go_end0
            exact ⟨⟨_, rfl⟩, .inr ⟨pre ++ [⟨(f, N - f), hok⟩], by rw [List.map_append, HCu.out]; exact List.prefix_refl _, hJx3⟩⟩
        · clear hat
          gi_wp2_with fail
          go_end0
          exact ⟨⟨_, rfl⟩, .inl ⟨pre, (H2.out (by omega)).symm, hj⟩⟩

set_option maxHeartbeats 1000000 in
theorem places_in (n : Nat) (ad : Option Addr) (m cap : Nat) (w : World) :
    CallsIn Fence.wide n Tryd.prog 22 #[.slice ad m cap] w fun e w' => e = .returned (.func (.func 37) #[] #[.pointer (some ⟨w.heap.size, 0, none⟩)]) ∧ w' = w.alloc (.cells #[.slice ad m cap] 25) := by
  refine callsIn_of_wp Tryd.func22 rfl trivial ?_ rfl
  simp only [Tryd.ntmps22, List.size_toArray, List.length_cons, List.length_nil, Nat.reduceAdd, Nat.reduceSub, Array.replicate_succ, Array.replicate_zero, List.push_toArray, List.append_toArray, List.nil_append, List.cons_append]
  gi_wp2
  go_ret
  exact ⟨rfl, rfl⟩

theorem places_stops (n : Nat) (hn : 1 ≤ n) (Bn m : Nat) (v : Value) (ts : List K) (hl : ts.length * 56 ≤ 140737488355328) (hu : 0 < ts.length → Under v m) (w : World) (hBn : Bn < w.heap.size)
    (hc : w.cell? ⟨Bn, 0, none⟩ = some v) (hv : Ks w v ts) :
    SeqStopsK Fence.wide n Tryd.prog 37 #[.pointer (some ⟨Bn, 0, none⟩)] (fun x : Cut ts => #[.int .i64 x.1.1, .int .i64 x.1.2]) (KeepS Bn m) (fun ys => ys.map Subtype.val = Dx.cuts 0 0 ts) (fun pre => pre.map Subtype.val <+: Dx.cuts 0 0 ts) (Dx.cuts 0 0 ts).length w := fun l J Jx W hW hJ _ hY h0 =>
  places1_in n hn l Bn m v ts hl hu J Jx hY W hJ ((hW.cell (p := ⟨Bn, 0, none⟩) hBn).trans hc) (hv.below hW) h0
end Go.Proofs.YtnkheejpmkflaaaDoor
