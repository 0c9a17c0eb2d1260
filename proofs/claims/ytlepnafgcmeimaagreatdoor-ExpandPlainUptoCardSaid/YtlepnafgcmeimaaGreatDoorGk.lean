/- What is proved: hide sets: both; signs. (and what stands with it) -/
import Derived.Test.YtlepnafgcmeimaaGreatDoorGj
import Derived.Test.YtlepnafgcmeimaaGreatDoorGi
import Derived.Laws.StructEq
import Derived.Test.YtlepnafgcmeimaaGreatDoorGe
import Derived.Recover
import Derived.WalkLawsBesides
import Derived.Lib.SliceRun
import Derived.Maps.OwnSet
import Derived.Deep.RegionLaw
import Derived.OneCell
import Derived.StringKeys
import Derived.Deep.AppendLies

/- What is proved: hide sets: both; signs. -/
namespace Go.Proofs.YtlepnafgcmeimaaGreatDoor
open Go.RowKit Go.Shelf

set_option maxRecDepth 100000 in
set_option maxHeartbeats 4000000 in
theorem eboth_any (p q : Option Addr) (h h' : Nat) (w : World) (hp : HidP w p h) (hq : HidP w q h') :
    Calls Tryz.prog 61 #[.pointer p, .pointer q] w (NmPost w (h &&& h') false) := by
  obtain ⟨hh, ⟨rfl, rfl⟩ | ⟨b, rfl, hb⟩⟩ := hp
  · go_enter Tryz.func61, Tryz.ntmps61
    go_wp2_with fail
    go_ret
    rw [Nat.zero_and]
    exact ⟨none, rfl, HidP.zero _, fun hy => (by cases hy), Below.refl _ _⟩
  · obtain ⟨hh', ⟨rfl, rfl⟩ | ⟨b', rfl, hb'⟩⟩ := hq
    · go_enter Tryz.func61, Tryz.ntmps61
      go_wp2_with fail
      go_ret
      rw [Nat.and_zero]
      exact ⟨none, rfl, HidP.zero _, fun hy => (by cases hy), Below.refl _ _⟩
    · have hbW := lt_of_heap hb
      have hB0 : Below w.heap.size w (w.alloc (.cells (nmCells h) 137)) := (Below.refl _ w).alloc (Nat.le_refl _) _
      have K := Lib.hid (fun c0 c2 c3 c4 c6 c7 c8 c9 c10 c11 c12 c13 c14 c15 c16 c17 c18 c19 c20 c21 c22 c23 c24 c25 c26 c27 c28 c29 =>
        eboth_end (w.alloc (.cells (nmCells h) 137)) w.heap.size b' h h' w.heap.size c0 c2 c3 c4 c6 c7 c8 c9 c10 c11 c12 c13 c14 c15 c16 c17 c18 c19 c20 c21 c22 c23 c24 c25 c26 c27 c28 c29
        (nm_new w h) ((hB0.block b' (lt_of_heap hb')).trans hb') (lt_of_heap hb') (Nat.le_refl _) hh hh' (NmPost w (h &&& h') false)
        (fun w' h1 h2 => ⟨_, rfl, ⟨and64_lt hh', .inr ⟨_, rfl, h1⟩⟩, fun hy => (by cases hy), hB0.trans h2⟩))
      obtain ⟨c0, c1, c2, c3, c4, c5, c6, c7, c8, c9, c10, c11, c12, c13, c14, c15⟩ := nm_cells hb
      clear hb hb' hB0
      go_enter Tryz.func61, Tryz.ntmps61
      show Code.wp Tryz.prog (secs 0 ebothBody) _ _ _
      refine wp_sec 0 ebothBody rfl ?_
      conv => arg 2; whnf
      go_wp2_with fail
      refine wp_sec 1 ebothBody rfl ?_
      conv => arg 2; whnf
      go_wp2_with fail
      refine wp_sec 2 ebothBody rfl ?_
      conv => arg 2; whnf
      go_wp2_with fail
      exact K.out _ _ _ _ _ _ _ _ _ _ _ _ _ _ _ _ _ _ _ _ _ _ _ _ _ _ _ _

set_option maxRecDepth 100000 in
set_option maxHeartbeats 4000000 in
theorem esign_any (t : K) (s : ByteArray) (w : World) : Calls Tryz.prog 57 #[kAgg t, .string s] w fun e w' => e = .returned (.bool (Mx.isP t s)) ∧ Below w.heap.size w w' := by
  obtain ⟨k, tx, f, a, b, bl⟩ := t
  dsimp only [kAgg]
  by_cases h1 : k = 5
  · subst h1
    by_cases h2 : tx = s
    · have t2 : (tx.toList == s.toList) = true := by rw [ba_beq]; simpa using h2
      have e : Mx.isP ⟨5, tx, f, a, b, bl⟩ s = true := by simp [Mx.isP, h2]
      rw [e]
      clear h2 e
      go_enter Tryz.func57, Tryz.ntmps57
      go_wp2_with fail
      go_ret
      exact ⟨rfl, (Below.refl _ _).alloc (Nat.le_refl _) _⟩
    · have t2 : (tx.toList == s.toList) = false := by rw [ba_beq]; simpa using h2
      have e : Mx.isP ⟨5, tx, f, a, b, bl⟩ s = false := by simp [Mx.isP, h2]
      rw [e]
      clear h2 e
      go_enter Tryz.func57, Tryz.ntmps57
      go_wp2_with fail
      go_ret
      exact ⟨rfl, (Below.refl _ _).alloc (Nat.le_refl _) _⟩
  · have t1 : (k == 5) = false := by simpa using h1
    have e : Mx.isP ⟨k, tx, f, a, b, bl⟩ s = false := by simp [Mx.isP, t1]
    rw [e]
    clear h1 e
    go_enter Tryz.func57, Tryz.ntmps57
    go_wp2_with fail
    go_ret
    exact ⟨rfl, (Below.refl _ _).alloc (Nat.le_refl _) _⟩
set_option maxRecDepth 100000 in
set_option maxHeartbeats 4000000 in
theorem etooMany_no (fb : Nat) (ad : Option Addr) (n cap : Nat) (w : World) (c0 : w.cell? ⟨fb, 0, none⟩ = some (.slice ad n cap)) (hn : n ≤ 4001) :
    Calls Tryz.prog 105 #[.pointer (some ⟨fb, 0, none⟩)] w fun e w' => e = .returned (.bool false) ∧ w' = w := by
  have q : ¬ (4001 : Int) < n := by omega
  have q2 : ¬ 4001 < n := by omega
  go_enter Tryz.func105, Tryz.ntmps105
  go_wp2_with fail
  go_ret
  simp
end Go.Proofs.YtlepnafgcmeimaaGreatDoor

/- What is proved: what Print, the document's own Print, texts, Same and Alike tell of tokens. -/
namespace Go.Proofs.YtlepnafgcmeimaaGreatDoor
open Go.RowKit Go.Shelf
open Lx (T)

theorem pr_take_succ (ts : List T) (k : Nat) (t : T) (h : ts[k]? = some t) : Lx.pr (ts.take (k + 1)) = Lx.pr (ts.take k) ++ ((if t.bl then [32] else []) ++ t.text) := by
  obtain ⟨hk, e⟩ := List.getElem?_eq_some_iff.1 h
  rw [List.take_succ_eq_append_getElem hk, Lx.pr_snoc, e]
theorem pr_append (a b : List T) : Lx.pr (a ++ b) = Lx.pr a ++ Lx.pr b := by
  simp [Lx.pr, Lx.prA]
theorem pr_take_le (ts : List T) (k : Nat) : (Lx.pr (ts.take k)).length ≤ (Lx.pr ts).length := by
  have := pr_append (ts.take k) (ts.drop k)
  rw [List.take_append_drop] at this
  rw [this]; simp

set_option maxRecDepth 100000 in
set_option maxHeartbeats 4000000 in
theorem print_any (v : Value) (f : Int) (ts : List T) (w : World) (hv : Toks w v f ts) (hl : ts.length ≤ 1000000000) (hp : (Lx.pr ts).length ≤ 1000000000) :
    Calls Tryz.prog 96 #[v] w fun e w' => e = .returned (.string ⟨(Lx.pr ts).toArray⟩) ∧ Below w.heap.size w w' := by
  obtain ⟨ad, cap, rfl, -⟩ := id hv
  rcases Nat.eq_zero_or_pos ts.length with h0 | hpos
  · obtain rfl : ts = [] := List.length_eq_zero_iff.1 h0
    clear hv
    go_enter Tryz.func96, Tryz.ntmps96
    go_wp2_with fail
    go_loopw [8] (fun i wr => i = .int .i64 0 ∧ Bld w.heap.size [] wr ∧ Below w.heap.size w wr) (fun _ _ => 0)
    case atStart => exact ⟨rfl, Bld.new w, (Below.refl _ w).alloc (Nat.le_refl _) _⟩
    case round =>
      obtain ⟨rfl, hb, hB⟩ := hrel
      go_wp2_with fail
      refine (bstring_any w.heap.size w.heap.size [] _ hb hB.size).mono ?_
      rintro e W1 ⟨rfl, b1⟩
      go_wp2_with fail
      go_ret
      exact ⟨rfl, hB.trans b1⟩
  · obtain ⟨g, o, rfl, -, hcap, hmax, hg, hc⟩ := hv.cells hpos
    unfold maxLen at hmax
    obtain ⟨n, hn⟩ : ∃ n, n = ts.length := ⟨_, rfl⟩
    rw [← hn] at hl hcap hpos
    rw [← hn]
    obtain ⟨X, hX⟩ : ∃ X, X = Lx.pr ts := ⟨_, rfl⟩
    rw [← hX] at hp ⊢
    have HXx := Lib.hid hX
    have Hn := Lib.hid hn
    have HC := Lib.hid hc
    clear hn hc hv hX
    go_enter Tryz.func96, Tryz.ntmps96
    go_wp2_with fail
    go_loopw [8] (fun i wr => ∃ k : Nat, i = .int .i64 k ∧ k ≤ n ∧ Bld w.heap.size (Lx.pr (ts.take k)) wr ∧ Below w.heap.size w wr) (fun i _ => n - (intOf i).toNat)
    case atStart => exact ⟨0, rfl, Nat.zero_le _, Bld.new w, (Below.refl _ w).alloc (Nat.le_refl _) _⟩
    case round =>
      obtain ⟨k, rfl, hk, hb, hB⟩ := hrel
      have hsB := hB.size
      by_cases hlt : k < n
      · obtain ⟨t, ht⟩ : ∃ t, ts[k]? = some t := ⟨_, List.getElem?_eq_getElem (by rw [← Hn.out]; exact hlt)⟩
        obtain ⟨d0, d1, d2, d3, d4, d5⟩ := (HC.out k t ht).below hB hg
        have hst := pr_take_succ ts k t ht
        have hle := pr_take_le ts (k + 1)
        rw [← HXx.out, hst] at hle
        obtain ⟨A, hA⟩ : ∃ A, A = Lx.pr (ts.take k) := ⟨_, rfl⟩
        rw [← hA] at hb hst hle
        simp only [List.length_append] at hle
        obtain ⟨Tx, hTx⟩ : ∃ Tx : ByteArray, Tx = ⟨t.text.toArray⟩ := ⟨_, rfl⟩
        have hTl : Tx.data.toList = t.text := by rw [hTx]
        have hTs : Tx.size = t.text.length := by rw [hTx, mk_size]
        rw [← hTx] at d1
        have hlA : A.length ≤ 1000000000 := by omega
        have hlT : Tx.size ≤ 1000000000 := by rw [hTs]; omega
        have HT := Lib.hid hTl
        have HS := Lib.hid hst
        have hz : w.heap.size < wr.heap.size := hb.lt
        clear ht hst hA hTx hTl hTs hle
        cases hbl : t.bl with
        | true =>
          rw [hbl] at d5
          have HBl := Lib.hid hbl
          clear hbl
          go_wp2_with fail
          refine (wbyte_keep w.heap.size A 32 _ (hb.alloc _) (by omega)).mono ?_
          rintro e W1 ⟨rfl, b1, hB1, hK1⟩
          have x1 : W1.cell? ⟨wr.heap.size, 1, none⟩ = some (.string Tx) := hK1.cell (o := 1) (by omega) (by decide) (heap_alloc_new wr _)
          go_wp2_with fail
          refine (wstring_any w.heap.size (A ++ [32]) Tx _ b1 (by simp; omega) (by omega)).mono ?_
          rintro e W2 ⟨rfl, b2, hB2⟩
          go_wp2_with fail
          go_roundw
          case rel => exact ⟨k + 1, by go_num, by omega, by rw [HS.out, HBl.out, ← HT.out]; simpa using b2, ((hB.alloc hsB _).trans hB1).trans hB2⟩
          case measure => simp [intOf]; omega
        | false =>
          rw [hbl] at d5
          have HBl := Lib.hid hbl
          clear hbl
          go_wp2_with fail
          refine (wstring_any w.heap.size A Tx _ (hb.alloc _) (by omega) (by omega)).mono ?_
          rintro e W2 ⟨rfl, b2, hB2⟩
          go_wp2_with fail
          go_roundw
          case rel => exact ⟨k + 1, by go_num, by omega, by rw [HS.out, HBl.out, ← HT.out]; simpa using b2, (hB.alloc hsB _).trans hB2⟩
          case measure => simp [intOf]; omega
      · go_wp2_with fail
        refine (bstring_any w.heap.size w.heap.size _ _ hb hB.size).mono ?_
        rintro e W1 ⟨rfl, b1⟩
        go_wp2_with fail
        go_ret
        refine ⟨?_, hB.trans b1⟩
        rw [List.take_of_length_le (by rw [← Hn.out]; omega), ← HXx.out]
        rfl
end Go.Proofs.YtlepnafgcmeimaaGreatDoor

/- What is proved: what the document's own Same and Alike tell of tokens. -/
namespace Go.Proofs.YtlepnafgcmeimaaGreatDoor
open Go.RowKit Go.Shelf
open Lx (T)

set_option maxRecDepth 100000 in
set_option maxHeartbeats 4000000 in
theorem same_any (v u : Value) (f : Int) (ts : List T) (w : World) (hv : Toks w v f ts) (hu : Toks w u f ts) (hl : ts.length ≤ 1000000000) :
    Calls Tryz.prog 11 #[v, u] w fun e w' => e = .returned (.bool true) ∧ Below w.heap.size w w' := by
  obtain ⟨ad, cap, rfl, -⟩ := id hv
  obtain ⟨ad', cap', rfl, -⟩ := id hu
  rcases Nat.eq_zero_or_pos ts.length with h0 | hpos
  · obtain rfl : ts = [] := List.length_eq_zero_iff.1 h0
    clear hv hu
    go_enter Tryz.func11, Tryz.ntmps11
    go_wp2_with fail
    go_loop [5] (fun i => i = .int .i64 0) (fun _ => 0)
    case atStart => exact rfl
    case round =>
      obtain rfl := hrel
      go_wp2_with fail
      go_ret
      exact ⟨rfl, Below.refl _ _⟩
  · obtain ⟨g, o, rfl, -, hcap, hmax, hg, hc⟩ := hv.cells hpos
    obtain ⟨g', o', rfl, -, hcap', hmax', hg', hc'⟩ := hu.cells hpos
    unfold maxLen at hmax hmax'
    obtain ⟨n, hn⟩ : ∃ n, n = ts.length := ⟨_, rfl⟩
    rw [← hn] at hl hcap hpos hcap'
    rw [← hn]
    have Hn := Lib.hid hn
    have HC := Lib.hid hc
    have HC' := Lib.hid hc'
    clear hn hc hc' hv hu
    go_enter Tryz.func11, Tryz.ntmps11
    go_wp2_with fail
    go_loopw [5] (fun i wr => ∃ k : Nat, i = .int .i64 k ∧ k ≤ n ∧ Below w.heap.size w wr) (fun i _ => n - (intOf i).toNat)
    case atStart => exact ⟨0, rfl, Nat.zero_le _, Below.refl _ _⟩
    case round =>
      obtain ⟨k, rfl, hk, hB⟩ := hrel
      have hsB := hB.size
      by_cases hlt : k < n
      · obtain ⟨t, ht⟩ : ∃ t, ts[k]? = some t := ⟨_, List.getElem?_eq_getElem (by rw [← Hn.out]; exact hlt)⟩
        obtain ⟨d0, d1, d2, d3, d4, d5⟩ := (HC.out k t ht).below hB hg
        obtain ⟨x0, x1, x2, x3, x4, x5⟩ := (HC'.out k t ht).below hB hg'
        obtain ⟨tx, htx⟩ : ∃ tx : ByteArray, tx = ⟨t.text.toArray⟩ := ⟨_, rfl⟩
        rw [← htx] at d1 x1
        have hq : ∀ W, (Op.equalIn 10000 30 (.agg #[.int .i64 t.kind, .string tx, .int .i64 f, .int .i64 t.fr, .int .i64 t.to, .bool t.bl]) (.agg #[.int .i64 t.kind, .string tx, .int .i64 f, .int .i64 t.fr, .int .i64 t.to, .bool t.bl])).run Tryz.prog W = .ok true W := fun W => run_sameTok _ _ _ _ _ _ W
        have z1 : (0 : Int) ≤ k := by omega
        have z2 : (k : Int) < n := by omega
        clear ht htx
        go_wp2_with fail
        go_quiet (fail)
        go_wp2_with fail
        go_roundw
        case rel => exact ⟨k + 1, by go_num, by omega, below_drewN hB _⟩
        case measure => simp [intOf]; omega
      · go_wp2_with fail
        go_ret
        exact ⟨rfl, hB⟩

end Go.Proofs.YtlepnafgcmeimaaGreatDoor

/- What is proved: what must and sign tell; how a panic of the program's own goes. -/
namespace Go.Proofs.YtlepnafgcmeimaaGreatDoor
open Go.RowKit Go.Shelf

def wrongV (e : Int) : Value := .iface 64 (.agg #[.int .i64 e])
def thrown (e : Int) : Ending := .panicked [{ v := wrongV e, recovered := false }]

theorem must_ok (e : Int) (w : World) : Calls Tryz.prog 67 #[.bool true, .int .i64 e] w fun x w' => x = .returned (.tuple #[]) ∧ w' = w := by
  go_enter Tryz.func67, Tryz.ntmps67
  go_wp2_with fail
  go_end0
  exact ⟨rfl, rfl⟩
theorem must_no (e : Int) (w : World) : Calls Tryz.prog 67 #[.bool false, .int .i64 e] w fun x w' => x = thrown e ∧ w' = w := by
  go_enter Tryz.func67, Tryz.ntmps67
  go_wp2_with fail
  exact ⟨rfl, rfl, rfl⟩

set_option maxHeartbeats 4000000 in
set_option maxRecDepth 100000 in
theorem msign_any (t : K) (s : ByteArray) (w : World) : Calls Tryz.prog 68 #[kAgg t, .string s] w fun e w' => e = .returned (.bool (Mx.isP t s)) ∧ Below w.heap.size w w' := by
  obtain ⟨k, tx, f, a, b, bl⟩ := t
  dsimp only [kAgg]
  by_cases h1 : k = 5
  · subst h1
    by_cases h2 : tx = s
    · have t2 : (tx.toList == s.toList) = true := by rw [ba_beq]; simpa using h2
      have e : Mx.isP ⟨5, tx, f, a, b, bl⟩ s = true := by simp [Mx.isP, h2]
      rw [e]
      clear h2 e
      go_enter Tryz.func68, Tryz.ntmps68
      go_wp2_with fail
      go_ret
      exact ⟨rfl, (Below.refl _ _).alloc (Nat.le_refl _) _⟩
    · have t2 : (tx.toList == s.toList) = false := by rw [ba_beq]; simpa using h2
      have e : Mx.isP ⟨5, tx, f, a, b, bl⟩ s = false := by simp [Mx.isP, h2]
      rw [e]
      clear h2 e
      go_enter Tryz.func68, Tryz.ntmps68
      go_wp2_with fail
      go_ret
      exact ⟨rfl, (Below.refl _ _).alloc (Nat.le_refl _) _⟩
  · have t1 : (k == 5) = false := by simpa using h1
    have e : Mx.isP ⟨k, tx, f, a, b, bl⟩ s = false := by simp [Mx.isP, h1]
    rw [e]
    clear h1 e
    go_enter Tryz.func68, Tryz.ntmps68
    go_wp2_with fail
    go_ret
    exact ⟨rfl, (Below.refl _ _).alloc (Nat.le_refl _) _⟩

/-- A place of the document's own sign: is there a token, and is it this one? -/
def isAt (l : List K) (i : Nat) (s : ByteArray) : Bool := match l[i]? with | some t => Mx.isP t s | none => false

end Go.Proofs.YtlepnafgcmeimaaGreatDoor

/- The reader of a definition in memory. -/
namespace Go.Proofs.YtlepnafgcmeimaaGreatDoor
open Go.RowKit Go.Shelf

theorem row_heap {W W' : World} {base e sz n : Nat} {v : Value} {cs : List Value} (h : W.ownsRow base e sz v n cs) (hb : ∀ k, v.ownBlock = some k → W'.heap[k]? = W.heap[k]?) : W'.ownsRow base e sz v n cs := by
  refine ⟨h.1, ?_⟩
  rcases h.2 with h' | ⟨g, cap, cur, h', h1, h2, h3⟩
  · exact .inl h'
  · exact .inr ⟨g, cap, cur, h', h1, (hb g (by rw [h']; rfl)).trans h2, h3⟩
/-- A world in which a row has grown, and nothing else that was there has changed. -/
structure Gr (w w' : World) (u u' : Value) : Prop where
  g : w.grownBy w' u.ownBlock
  own : ∀ k, u'.ownBlock = some k → u.ownBlock = some k ∨ w.heap.size ≤ k
theorem Gr.refl (w : World) (u : Value) : Gr w w u u := ⟨⟨rfl, rfl, rfl, Nat.le_refl _, fun _ _ _ => rfl⟩, fun _ h => .inl h⟩
theorem Gr.block {w w' : World} {u u' : Value} (h : Gr w w' u u') {k : Nat} (hk : k < w.heap.size) (hn : u.ownBlock ≠ some k) : w'.heap[k]? = w.heap[k]? := h.g.block k hk (fun e => hn e.symm)
theorem Gr.trans {w w1 w2 : World} {u u1 u2 : Value} (h : Gr w w1 u u1) (k : Gr w1 w2 u1 u2) : Gr w w2 u u2 := by
  refine ⟨⟨k.g.os.trans h.g.os, k.g.tape.trans h.g.tape, k.g.output.trans h.g.output, Nat.le_trans h.g.size k.g.size, fun j hj hn => ?_⟩, fun j hj => ?_⟩
  · refine (k.g.block j (Nat.lt_of_lt_of_le hj h.g.size) fun e => ?_).trans (h.g.block j hj hn)
    rcases h.own j e.symm with h' | h'
    · exact hn h'.symm
    · omega
  · rcases k.own j hj with h' | h'
    · exact h.own j h'
    · exact .inr (Nat.le_trans h.g.size h')
theorem Gr.alloc (w : World) (u : Value) (o : Obj) : Gr w (w.alloc o) u u :=
  ⟨⟨rfl, rfl, rfl, by simp, fun k hk _ => Below.heap_alloc w o k hk⟩, fun _ h => .inl h⟩
theorem Gr.lies {w w' : World} {u : Value} {g n cap : Nat} (h : w.grownBy w' u.ownBlock) (hg : u.ownBlock = some g ∨ g = w.heap.size) : Gr w w' u (.slice (some ⟨g, 0, none⟩) n cap) := by
  refine ⟨h, fun k hk => ?_⟩
  simp only [Value.ownBlock, Option.some.injEq] at hk
  subst hk
  rcases hg with hg | hg
  · exact .inl hg
  · exact .inr (by omega)
theorem Gr.below {w w' : World} {u u' : Value} (h : Gr w w' u u') {B : Nat} (hB : B ≤ w.heap.size) (hu : ∀ k, u.ownBlock = some k → B ≤ k) : Below B w w' :=
  ⟨h.g.os, h.g.tape, h.g.output, h.g.size, fun k hk => h.block (by omega) fun e => by have := hu k e; omega⟩
theorem row_not {w : World} {base e t sz n k : Nat} {v : Value} {xs : List Value} {cs : Array Value} {fz : Nat × Nat} (h : w.ownsRow base e sz v n xs) (hb : w.heap[k]? = some (.cells cs t fz)) (ht : t ≠ e) : v.ownBlock ≠ some k := fun hk => by
  rcases h.2 with ⟨h', _⟩ | ⟨g', cap', cur, h', _, h2', _⟩
  · rw [h'] at hk; cases hk
  · rw [h'] at hk
    simp only [Value.ownBlock, Option.some.injEq] at hk
    rw [hk, hb] at h2'
    injection h2' with h2'
    injection h2' with _ h3 _
    exact ht h3

theorem grownN {w w' : World} (h : Below w.heap.size w w') (row : Option Nat) : w.grownBy w' row := ⟨h.os, h.tape, h.output, h.size, fun k hk _ => h.block k hk⟩
theorem below_from {B : Nat} {w w1 w2 : World} (h : Below B w w1) (hB : B ≤ w1.heap.size) (k : Below w1.heap.size w1 w2) : Below B w w2 := h.trans (k.mono hB)
def strCells (l : List ByteArray) : List Value := l.map .string
theorem strCells_append (a b : List ByteArray) : strCells (a ++ b) = strCells a ++ strCells b := List.map_append
theorem strCells_length (a : List ByteArray) : (strCells a).length = a.length := List.length_map _
theorem strCells_one (a : List ByteArray) : ∀ u ∈ strCells a, u.oneCell' = true := by
  intro u hu
  obtain ⟨x, _, rfl⟩ := List.mem_map.1 hu
  rfl
theorem infoStr : (Tryz.prog.info? 9).map (fun i => (i.zero, i.size, i.bytes)) = some (some (.string ByteArray.empty), 1, 16) := by kernel_rfl
theorem keyStr : Go.Maps.Keyed Tryz.prog 9 := Go.Maps.string_keyed Tryz.underlying9
theorem zeroUnit (w : World) : (zeroValue 153).run Tryz.prog w = .ok (.agg #[]) w := by kernel_rfl

/-- Tokens of older memory: what is left. -/
def Lf (W : World) (base : Nat) (v : Value) (l : List K) : Prop :=
  ∃ g o cap, v = .slice (some ⟨g, o, none⟩) l.length cap ∧ l.length ≤ cap ∧ cap ≤ maxLen ∧ g < base ∧ ∀ i t, l[i]? = some t → KAt W g (o + i * 6) t
theorem Lf.ks {W : World} {base : Nat} {v : Value} {l : List K} (h : Lf W base v l) : Ks W v l := by
  obtain ⟨g, o, cap, rfl, h1, h2, _, h3⟩ := h
  exact ⟨_, cap, rfl, h1, h2, fun i t ht => ⟨g, o, rfl, h3 i t ht⟩⟩
theorem Lf.keep {W W' : World} {base : Nat} {v : Value} {l : List K} (h : Lf W base v l) (hb : Below base W W') : Lf W' base v l := by
  obtain ⟨g, o, cap, rfl, h1, h2, h4, h3⟩ := h
  exact ⟨g, o, cap, rfl, h1, h2, h4, fun i t ht => (h3 i t ht).kept (hb.block g h4)⟩

/-- The names that are known. -/
def MapOf (W : World) (mb : Nat) (ps : List ByteArray) (va : Bool) : Prop :=
  ∃ n D, W.ownsMap (H := Unit) Tryz.prog 9 unitElem mb n D ∧ n ≤ ps.length + (if va then 1 else 0) ∧ ∀ x : ByteArray, x.size ≤ maxLen → Go.Maps.has D (.string x.data.toList) = (Mx.has ps x || (va && decide (x = Mx.VA)))

structure Rd (W : World) (base R mb : Nat) (nm : ByteArray) (fn : Bool) (pv : Value) (ps : List ByteArray) (va : Bool) (bv lv : Value) (l : List K) : Prop where
  blk : W.heap[R]? = some (.cells #[.string nm, .bool fn, pv, .bool va, bv, lv, .map (some mb)] 101 (0, 0))
  hR : base ≤ R
  hm : base ≤ mb
  prow : W.ownsRow base 9 1 pv ps.length (strCells ps)
  pR : pv.ownBlock ≠ some R
  pm : pv.ownBlock ≠ some mb
  ne : mb ≠ R
  mp : MapOf W mb ps va
  lf : Lf W base lv l

section
variable {W W' : World} {base R mb : Nat} {nm : ByteArray} {fn va : Bool} {pv bv lv : Value} {ps : List ByteArray} {l : List K}
theorem MapOf.keep (h : MapOf W mb ps va) (hg : W.grownBy W' none) : MapOf W' mb ps va := by
  obtain ⟨n, D, h1, h2⟩ := h
  exact ⟨n, D, h1.kept hg (by simp), h2⟩
theorem MapOf.set (h : MapOf W mb ps va) {a : Addr} (ha : mb ≠ a.block) (u : Value) : MapOf (W.setCell a u) mb ps va := by
  obtain ⟨n, D, h1, h2⟩ := h
  exact ⟨n, D, h1.setCell ha u, h2⟩
theorem Rd.ltR (h : Rd W base R mb nm fn pv ps va bv lv l) : R < W.heap.size := (Array.getElem?_eq_some_iff.1 h.blk).1
theorem Rd.big (h : Rd W base R mb nm fn pv ps va bv lv l) : base ≤ W.heap.size := Nat.le_trans h.hR (Nat.le_of_lt h.ltR)
theorem Rd.cell (h : Rd W base R mb nm fn pv ps va bv lv l) (i : Nat) : W.cell? ⟨R, i, none⟩ = (#[.string nm, .bool fn, pv, .bool va, bv, lv, .map (some mb)] : Array Value)[i]? := by simp [World.cell?, h.blk]
theorem Rd.froz (h : Rd W base R mb nm fn pv ps va bv lv l) (i : Nat) : W.frozen? ⟨R, i, none⟩ = false := by simp [World.frozen?, h.blk]
/-- The same reader, where new memory alone was made. -/
theorem Rd.keep (h : Rd W base R mb nm fn pv ps va bv lv l) (hb : Below W.heap.size W W') : Rd W' base R mb nm fn pv ps va bv lv l :=
  ⟨(hb.block R h.ltR).trans h.blk, h.hR, h.hm, row_below h.prow hb, h.pR, h.pm, h.ne, h.mp.keep (grownN hb none), h.lf.keep (hb.mono h.big)⟩
theorem Lf.set (h : Lf W base lv l) (hR : base ≤ R) (i : Nat) (u : Value) : Lf (W.setCell ⟨R, i, none⟩ u) base lv l :=
  h.keep ((Below.refl _ _).setCell hR u)
theorem Rd.setName (h : Rd W base R mb nm fn pv ps va bv lv l) (x : ByteArray) : Rd (W.setCell ⟨R, 0, none⟩ (.string x)) base R mb x fn pv ps va bv lv l :=
  ⟨by simp [World.setCell, Array.getElem?_modify, h.blk], h.hR, h.hm, ownsRow_setCell_other h.prow h.pR _, h.pR, h.pm, h.ne, h.mp.set h.ne _, h.lf.set h.hR _ _⟩
theorem Rd.setFn (h : Rd W base R mb nm fn pv ps va bv lv l) (x : Bool) : Rd (W.setCell ⟨R, 1, none⟩ (.bool x)) base R mb nm x pv ps va bv lv l :=
  ⟨by simp [World.setCell, Array.getElem?_modify, h.blk], h.hR, h.hm, ownsRow_setCell_other h.prow h.pR _, h.pR, h.pm, h.ne, h.mp.set h.ne _, h.lf.set h.hR _ _⟩
theorem Rd.setBody (h : Rd W base R mb nm fn pv ps va bv lv l) (x : Value) : Rd (W.setCell ⟨R, 4, none⟩ x) base R mb nm fn pv ps va x lv l :=
  ⟨by simp [World.setCell, Array.getElem?_modify, h.blk], h.hR, h.hm, ownsRow_setCell_other h.prow h.pR _, h.pR, h.pm, h.ne, h.mp.set h.ne _, h.lf.set h.hR _ _⟩
theorem Rd.setLeft (h : Rd W base R mb nm fn pv ps va bv lv l) {x : Value} {l' : List K} (hx : Lf W base x l') : Rd (W.setCell ⟨R, 5, none⟩ x) base R mb nm fn pv ps va bv x l' :=
  ⟨by simp [World.setCell, Array.getElem?_modify, h.blk], h.hR, h.hm, ownsRow_setCell_other h.prow h.pR _, h.pR, h.pm, h.ne, h.mp.set h.ne _, hx.set h.hR _ _⟩
end

/-- What is left behind the first tokens. -/
theorem Lf.part {W : World} {base g o n cap : Nat} {l : List K} (h : Lf W base (.slice (some ⟨g, o, none⟩) n cap) l) (a : Nat) (ha : a ≤ l.length) (x : Nat) (hx : a < cap → x = a * 6) :
    Lf W base (.slice (some ⟨g, o + x, none⟩) (n - a) (cap - a)) (l.drop a) := by
  obtain ⟨g', o', cap', e, h1, h2, h4, h3⟩ := h
  injection e with e1 e2 e3
  injection e1 with e1
  injection e1 with e1 e4
  subst e1 e2 e3 e4
  refine ⟨g, o + x, cap - a, by rw [List.length_drop], by rw [List.length_drop]; omega, by omega, h4, fun i t ht => ?_⟩
  rw [List.getElem?_drop] at ht
  have hlt := (List.getElem?_eq_some_iff.1 ht).1
  rw [hx (by omega), show o + a * 6 + i * 6 = o + (a + i) * 6 by omega]
  exact h3 _ t ht
end Go.Proofs.YtlepnafgcmeimaaGreatDoor

/- What is proved: what name does. -/
namespace Go.Proofs.YtlepnafgcmeimaaGreatDoor
open Go.RowKit Go.Shelf

theorem Lf.tl {W : World} {base g o n cap : Nat} {t : K} {r : List K} (h : Lf W base (.slice (some ⟨g, o, none⟩) (n + 1) cap) (t :: r)) (x : Nat) (hx : 1 < cap → x = 6) :
    Lf W base (.slice (some ⟨g, o + x, none⟩) n (cap - 1)) r := h.part 1 (by simp) x hx
theorem Lf.tl2 {W : World} {base g o n cap : Nat} {t u : K} {r : List K} (h : Lf W base (.slice (some ⟨g, o, none⟩) (n + 2) cap) (t :: u :: r)) (x : Nat) (hx : 2 < cap → x = 12) :
    Lf W base (.slice (some ⟨g, o + x, none⟩) n (cap - 2)) r := h.part 2 (by simp) x hx

def RdPost (base R mb : Nat) (nm : ByteArray) (fn : Bool) (pv : Value) (ps : List ByteArray) (va : Bool) (bv : Value) (l : List K) (w : World) (e : Ending) (w' : World) : Prop :=
  e = .returned (.tuple #[]) ∧ ∃ lv, Rd w' base R mb nm fn pv ps va bv lv l ∧ Below base w w'

set_option maxRecDepth 100000 in
set_option maxHeartbeats 4000000 in
theorem name_ok (base R mb : Nat) (nm : ByteArray) (fn : Bool) (pv : Value) (ps : List ByteArray) (va : Bool) (bv lv : Value) (t : K) (r : List K) (w : World)
    (h : Rd w base R mb nm fn pv ps va bv lv (t :: r)) (ht : Mx.nameOk t = true) :
    Calls Tryz.prog 45 #[.pointer (some ⟨R, 0, none⟩)] w (RdPost base R mb t.text fn pv ps va bv r w) := by
  obtain ⟨g, o, cap, rfl, hc1, hc2, hg, hc⟩ := id h.lf
  have c5 := (h.cell 5).trans rfl
  have c0 := (h.cell 0).trans rfl
  have f0 := h.froz 0
  have f5 := h.froz 5
  have hR := h.ltR
  have hbR := h.hR
  have hgR : ¬ g = R := by omega
  have hRg : ¬ R = g := by omega
  obtain ⟨k0, k1, -, -, -, -⟩ := hc 0 t rfl
  simp only [Nat.zero_mul, Nat.add_zero] at k0 k1
  simp only [List.length_cons] at hc1 c5
  obtain ⟨n, hn⟩ : ∃ n, n = r.length := ⟨_, rfl⟩
  rw [← hn] at hc1 c5
  obtain ⟨kind, tx, f, a, b, bl⟩ := t
  dsimp only at k0 k1 ⊢
  simp only [Mx.nameOk, Bool.and_eq_true, beq_iff_eq, Bool.not_eq_true', decide_eq_false_iff_not] at ht
  obtain ⟨rfl, hd, hv⟩ := ht
  have t1 : (tx.toList == [100, 101, 102, 105, 110, 101, 100]) = false := lit_no hd
  have t2 : (tx.toList == [95, 95, 86, 65, 95, 65, 82, 71, 83, 95, 95]) = false := lit_no hv
  have HH := Lib.hid h
  have Hn := Lib.hid hn
  clear h hc hn hd hv
  go_enter Tryz.func45, Tryz.ntmps45
  go_wp2_with fail
  refine (must_ok 60 _).mono ?_
  rintro e w1 ⟨rfl, rfl⟩
  go_wp2_with fail
  refine (must_ok 60 _).mono ?_
  rintro e w2 ⟨rfl, rfl⟩
  rcases Decidable.em (cap = 1) with rfl | hcap
  · obtain rfl : n = 0 := by omega
    go_wp2_with fail
    go_end0
    have hL := Lf.tl (n := 0) (by rw [Hn.out]; exact (HH.out.setName tx).lf) 0 (by omega)
    exact ⟨rfl, _, (HH.out.setName tx).setLeft hL, ((Below.refl _ _).setCell hbR _).setCell hbR _⟩
  · go_wp2_with fail
    go_end0
    exact ⟨rfl, _, (HH.out.setName tx).setLeft (Lf.tl (n := n) (by rw [Hn.out]; exact (HH.out.setName tx).lf) 6 (by omega)), ((Below.refl _ _).setCell hbR _).setCell hbR _⟩
def BadPost (base : Nat) (err : Int) (w : World) (e : Ending) (w' : World) : Prop := e = thrown err ∧ Below base w w'

set_option maxRecDepth 100000 in
set_option maxHeartbeats 4000000 in
theorem name_nil (base R : Nat) (ad : Option Addr) (cap : Nat) (w : World) (c5 : w.cell? ⟨R, 5, none⟩ = some (.slice ad 0 cap)) :
    Calls Tryz.prog 45 #[.pointer (some ⟨R, 0, none⟩)] w (BadPost base 60 w) := by
  go_enter Tryz.func45, Tryz.ntmps45
  go_wp2_with fail
  refine (must_no 60 _).mono ?_
  rintro e w1 ⟨rfl, rfl⟩
  exact ⟨rfl, rfl, Below.refl _ _⟩

set_option maxRecDepth 100000 in
set_option maxHeartbeats 4000000 in
theorem name_bad (base R mb : Nat) (nm : ByteArray) (fn : Bool) (pv : Value) (ps : List ByteArray) (va : Bool) (bv lv : Value) (t : K) (r : List K) (w : World)
    (h : Rd w base R mb nm fn pv ps va bv lv (t :: r)) (ht : Mx.nameOk t = false) :
    Calls Tryz.prog 45 #[.pointer (some ⟨R, 0, none⟩)] w (BadPost base 60 w) := by
  obtain ⟨g, o, cap, rfl, hc1, hc2, hg, hc⟩ := id h.lf
  have c5 := (h.cell 5).trans rfl
  have c0 := (h.cell 0).trans rfl
  have f0 := h.froz 0
  have f5 := h.froz 5
  have hR := h.ltR
  have hbR := h.hR
  have hgR : ¬ g = R := by omega
  have hRg : ¬ R = g := by omega
  obtain ⟨k0, k1, -, -, -, -⟩ := hc 0 t rfl
  simp only [Nat.zero_mul, Nat.add_zero] at k0 k1
  simp only [List.length_cons] at hc1 c5
  obtain ⟨n, hn⟩ : ∃ n, n = r.length := ⟨_, rfl⟩
  rw [← hn] at hc1 c5
  obtain ⟨kind, tx, f, a, b, bl⟩ := t
  dsimp only at k0 k1 ⊢
  simp only [Mx.nameOk, Bool.and_eq_false_iff, beq_eq_false_iff_ne, Bool.not_eq_false', decide_eq_true_iff] at ht
  clear h hc hn
  by_cases h1 : kind = 1
  · subst h1
    by_cases hd : tx = Mx.DF
    · have t1 : (tx.toList == [100, 101, 102, 105, 110, 101, 100]) = true := lit_yes hd
      clear ht hd
      go_enter Tryz.func45, Tryz.ntmps45
      go_wp2_with fail
      refine (must_ok 60 _).mono ?_
      rintro e w1 ⟨rfl, rfl⟩
      go_wp2_with fail
      refine (must_no 60 _).mono ?_
      rintro e w2 ⟨rfl, rfl⟩
      exact ⟨rfl, rfl, (Below.refl _ _).setCell hbR _⟩
    · have t1 : (tx.toList == [100, 101, 102, 105, 110, 101, 100]) = false := lit_no hd
      have t2 : (tx.toList == [95, 95, 86, 65, 95, 65, 82, 71, 83, 95, 95]) = true := lit_yes (show tx = Mx.VA by simpa [hd] using ht)
      clear ht hd
      go_enter Tryz.func45, Tryz.ntmps45
      go_wp2_with fail
      refine (must_ok 60 _).mono ?_
      rintro e w1 ⟨rfl, rfl⟩
      go_wp2_with fail
      refine (must_no 60 _).mono ?_
      rintro e w2 ⟨rfl, rfl⟩
      exact ⟨rfl, rfl, (Below.refl _ _).setCell hbR _⟩
  · have t3 : (kind == 1) = false := by simpa using h1
    clear ht h1
    go_enter Tryz.func45, Tryz.ntmps45
    go_wp2_with fail
    refine (must_no 60 _).mono ?_
    rintro e w1 ⟨rfl, rfl⟩
    exact ⟨rfl, rfl, Below.refl _ _⟩
end Go.Proofs.YtlepnafgcmeimaaGreatDoor

/- What is proved: what known tells. -/
namespace Go.Proofs.YtlepnafgcmeimaaGreatDoor
open Go.RowKit Go.Shelf Go.WideMaps

theorem MapOf.look {W : World} {mb : Nat} {ps : List ByteArray} {va : Bool} (h : MapOf W mb ps va) (x : ByteArray) (hx : x.size ≤ maxLen) :
    (Instr.lookup 99 (.map (some mb)) (.string x) true).run Tryz.prog W = .ok (.tuple #[.agg #[], .bool (Mx.has ps x || (va && decide (x = Mx.VA)))]) W := by
  obtain ⟨n, D, h1, _, h3⟩ := h
  obtain ⟨v, q, hr, hv⟩ := h1.look_ok keyStr Tryz.underlying99 (zeroUnit W) (unitElem_mk (H := Unit)) (keyOf_string_mk Tryz.underlying9 hx)
  obtain ⟨rfl, _⟩ := unitElem_inv hv
  rw [hr, h3 x hx]

def KnownPost (w : World) (b : Bool) (e : Ending) (w' : World) : Prop := e = .returned (.bool b) ∧ Below w.heap.size w w'

set_option maxRecDepth 100000 in
set_option maxHeartbeats 4000000 in
theorem known_any (base R mb : Nat) (nm : ByteArray) (fn : Bool) (pv : Value) (ps : List ByteArray) (va : Bool) (bv lv : Value) (l : List K) (t : K) (w : World)
    (h : Rd w base R mb nm fn pv ps va bv lv l) (ht : t.text.size ≤ maxLen) :
    Calls Tryz.prog 70 #[.pointer (some ⟨R, 0, none⟩), kAgg t] w (KnownPost w (Mx.known ps va t)) := by
  have c6 := (h.cell 6).trans rfl
  have hR := h.ltR
  obtain ⟨kind, tx, f, a, b, bl⟩ := t
  dsimp only at ht
  have hm0 := (h.keep (W' := w.alloc (.cells #[.int .i64 kind, .string tx, .int .i64 f, .int .i64 a, .int .i64 b, .bool bl] 30)) ((Below.refl _ w).alloc (Nat.le_refl _) _)).mp
  obtain ⟨q, hq⟩ : ∃ q, q = (Mx.has ps tx || (va && decide (tx = Mx.VA))) := ⟨_, rfl⟩
  have e : Mx.known ps va ⟨kind, tx, f, a, b, bl⟩ = (kind == 1 && q) := by rw [hq]; rfl
  rw [e]
  dsimp only [kAgg]
  go_enter Tryz.func70, Tryz.ntmps70
  go_wp2_with fail
  have hB0 : Below w.heap.size w (w.alloc (.cells #[.int .i64 kind, .string tx, .int .i64 f, .int .i64 a, .int .i64 b, .bool bl] 30)) := (Below.refl _ w).alloc (Nat.le_refl _) _
  have hblk := heap_alloc_new w (.cells #[.int .i64 kind, .string tx, .int .i64 f, .int .i64 a, .int .i64 b, .bool bl] 30)
  have d6 := (hB0.cell (p := ⟨R, 6, none⟩) hR).trans c6
  have e0 := (Lib.cell_of_heap hblk 0).trans rfl
  have e1 := (Lib.cell_of_heap hblk 1).trans rfl
  have hbl := lt_of_cell e0
  have hRW := lt_of_cell d6
  generalize (w.alloc (.cells #[.int .i64 kind, .string tx, .int .i64 f, .int .i64 a, .int .i64 b, .bool bl] 30)) = W at hm0 hB0 hblk d6 e0 e1 hbl hRW ⊢
  have l1 := hm0.look tx ht
  have l2 := MapOf.look (W := W.drew) hm0 tx ht
  have l3 := MapOf.look (W := (W.alloc (.cells #[] 153)).drew) (hm0.keep (W' := (W.alloc (.cells #[] 153)).drew) ⟨rfl, rfl, rfl, by simp, fun k hk _ => Below.heap_alloc W _ k hk⟩) tx ht
  rw [← hq] at l1 l2 l3
  clear hq e hm0 hblk c6 h
  have hB1 : Below w.heap.size w (W.alloc (.cells #[] 153)).drew := Below.drew (Below.then hB0 ((Below.refl _ W).alloc (Nat.le_refl _) _))
  go_region
  all_goals
    cases q
    · go_wp2_with fail
      go_ret
      exact ⟨by simp, hB1⟩
    · go_wp2_with fail
      go_ret
      exact ⟨by simp, hB1⟩
end Go.Proofs.YtlepnafgcmeimaaGreatDoor

/- What is proved: what param does. -/
namespace Go.Proofs.YtlepnafgcmeimaaGreatDoor
open Go.RowKit Go.Shelf Go.WideMaps

theorem str_inj {a b : ByteArray} (h : (Lit.string a.data.toList : Lit) = .string b.data.toList) : a = b := by
  injection h with h
  cases a; cases b
  simp only at h
  congr
  exact Array.ext' h
theorem keyLit (x : ByteArray) (_ : x.size ≤ maxLen) : WideAt.IsKeyLit (.string x.data.toList) := by
  trivial

theorem MapOf.put {W : World} {mb : Nat} {ps : List ByteArray} (h : MapOf W mb ps false) (x : ByteArray) (hx : x.size ≤ maxLen) (hl : ps.length < maxLen) :
    ∃ W', (Instr.mapUpdate 99 (.map (some mb)) (.string x) (.agg #[])).run Tryz.prog W = .ok () W' ∧ MapOf W' mb (ps ++ [x]) false ∧ W.grownBy W' (some mb) := by
  obtain ⟨n, D, h1, h2, h3⟩ := h
  simp only [Bool.false_eq_true, if_false, Nat.add_zero] at h2
  obtain ⟨W', r1, r2, r3⟩ := h1.update keyStr Tryz.underlying99 (by omega) (keyOf_string_mk Tryz.underlying9 hx) (unitElem_mk (H := Unit))
  refine ⟨W', r1, ⟨n + 1, _, r2, by simp; omega, fun y hy => ?_⟩, r3⟩
  by_cases e : y = x
  · subst e
    rw [Go.Maps.has_put_same h1.isMap (keyLit y hx)]
    simp [Mx.has]
  · rw [Go.Maps.has_put_other (fun e' => e (str_inj e')), h3 y hy]
    have : ¬ x = y := fun e' => e e'.symm
    simp [Mx.has, this]
theorem MapOf.putVa {W : World} {mb : Nat} {ps : List ByteArray} (h : MapOf W mb ps false) (hl : ps.length < maxLen) :
    ∃ W', (Instr.mapUpdate 99 (.map (some mb)) (.string Mx.VA) (.agg #[])).run Tryz.prog W = .ok () W' ∧ MapOf W' mb ps true ∧ W.grownBy W' (some mb) := by
  obtain ⟨n, D, h1, h2, h3⟩ := h
  simp only [Bool.false_eq_true, if_false, Nat.add_zero] at h2
  have hx : Mx.VA.size ≤ maxLen := by decide
  obtain ⟨W', r1, r2, r3⟩ := h1.update keyStr Tryz.underlying99 (by omega) (keyOf_string_mk Tryz.underlying9 hx) (unitElem_mk (H := Unit))
  refine ⟨W', r1, ⟨n + 1, _, r2, by simp; omega, fun y hy => ?_⟩, r3⟩
  by_cases e : y = Mx.VA
  · subst e
    rw [Go.Maps.has_put_same h1.isMap (keyLit _ hx)]
    simp
  · rw [Go.Maps.has_put_other (fun e' => e (str_inj e')), h3 y hy]
    simp [e]

section
variable {W W' W1 W2 : World} {base R mb : Nat} {nm : ByteArray} {fn : Bool} {pv pv' bv lv : Value} {ps : List ByteArray} {l : List K}
theorem Lf.grown (h : Lf W base lv l) (hg : W.grownBy W' (some mb)) (hm : base ≤ mb) (hb : base ≤ W.heap.size) : Lf W' base lv l := by
  obtain ⟨g, o, cap, rfl, h1, h2, h4, h3⟩ := h
  exact ⟨g, o, cap, rfl, h1, h2, h4, fun i t ht => (h3 i t ht).kept (hg.block g (by omega) (by simp; omega))⟩
theorem Rd.elStep (h : Rd W base R mb nm fn pv ps false bv lv l) (hg : (W.setCell ⟨R, 3, none⟩ (.bool true)).grownBy W' (some mb)) (hm : MapOf W' mb ps true) : Rd W' base R mb nm fn pv ps true bv lv l := by
  have hR : (W.setCell ⟨R, 3, none⟩ (.bool true)).heap[R]? = some (.cells #[.string nm, .bool fn, pv, .bool true, bv, lv, .map (some mb)] 101 (0, 0)) := by simp [World.setCell, Array.getElem?_modify, h.blk]
  refine ⟨(hg.block R (by simpa using h.ltR) (by simpa using Ne.symm h.ne)).trans hR, h.hR, h.hm, ?_, h.pR, h.pm, h.ne, hm, (h.lf.set h.hR 3 _).grown hg h.hm (by simpa using h.big)⟩
  exact row_heap (ownsRow_setCell_other h.prow h.pR (.bool true)) fun k e => hg.block k (by simpa using (h.prow.lt k e).2) fun e' => h.pm (by rw [e, e'])
theorem Rd.idStep {x : ByteArray} (h : Rd W base R mb nm fn pv ps false bv lv l) (hg : W.grownBy W1 (some mb)) (hm : MapOf W1 mb (ps ++ [x]) false) (hG : Gr W1 W2 pv pv') (hrow : W2.ownsRow base 9 1 pv' (ps.length + 1) (strCells ps ++ [.string x])) :
    Rd (W2.setCell ⟨R, 2, none⟩ pv') base R mb nm fn pv' (ps ++ [x]) false bv lv l := by
  have hR1 : W1.heap[R]? = some (.cells #[.string nm, .bool fn, pv, .bool false, bv, lv, .map (some mb)] 101 (0, 0)) := (hg.block R h.ltR (by simpa using Ne.symm h.ne)).trans h.blk
  have hltR : R < W1.heap.size := (Array.getElem?_eq_some_iff.1 hR1).1
  have hltm : mb < W1.heap.size := by obtain ⟨n, D, h1, _⟩ := hm; exact h1.lt
  have hR2 := (hG.block hltR h.pR).trans hR1
  have hn : ∀ k, k < W1.heap.size → pv.ownBlock ≠ some k → pv'.ownBlock ≠ some k := fun k hk hp e => by
    rcases hG.own k e with e' | e'
    · exact hp e'
    · omega
  have hmW : MapOf W2 mb (ps ++ [x]) false := by
    obtain ⟨n, D, h1, h2⟩ := hm
    refine ⟨n, D, ?_, h2⟩
    obtain ⟨es, clock, hb, F, hs, hD⟩ := h1
    exact ⟨es, clock, (hG.block hltm h.pm).trans hb, F, hs, hD⟩
  have hlf1 := h.lf.grown hg h.hm h.big
  refine ⟨by simp [World.setCell, Array.getElem?_modify, hR2], h.hR, h.hm, ?_, hn R hltR h.pR, hn mb hltm h.pm, h.ne, hmW.set h.ne _, ?_⟩
  · rw [strCells_append, List.length_append]
    exact ownsRow_setCell_other hrow (hn R hltR h.pR) _
  · refine Lf.set (hlf1.keep ?_) h.hR 2 _
    exact hG.below (Nat.le_trans h.big hg.size) fun k e => (h.prow.lt k e).1
end

set_option maxRecDepth 100000 in
set_option maxHeartbeats 4000000 in
theorem param_el (base R mb : Nat) (nm : ByteArray) (fn : Bool) (pv : Value) (ps : List ByteArray) (bv lv : Value) (l : List K) (t : K) (w : World)
    (h : Rd w base R mb nm fn pv ps false bv lv l) (ht : Mx.isP t Mx.EL = true) (hl : ps.length < maxLen) :
    Calls Tryz.prog 83 #[.pointer (some ⟨R, 0, none⟩), kAgg t] w fun e w' => e = .returned (.tuple #[]) ∧ Rd w' base R mb nm fn pv ps true bv lv l ∧ Below base w w' := by
  have key := msign_any t Mx.EL
  rw [ht] at key
  obtain ⟨kind, tx, f, a, b, bl⟩ := t
  dsimp only [kAgg] at key ⊢
  have hB0 : Below w.heap.size w (w.alloc (.cells #[.int .i64 kind, .string tx, .int .i64 f, .int .i64 a, .int .i64 b, .bool bl] 30)) := (Below.refl _ w).alloc (Nat.le_refl _) _
  have hblk := heap_alloc_new w (.cells #[.int .i64 kind, .string tx, .int .i64 f, .int .i64 a, .int .i64 b, .bool bl] 30)
  go_enter Tryz.func83, Tryz.ntmps83
  go_wp2_with fail
  generalize (w.alloc (.cells #[.int .i64 kind, .string tx, .int .i64 f, .int .i64 a, .int .i64 b, .bool bl] 30)) = W at hB0 hblk ⊢
  refine (key _).mono ?_
  rintro e W1 ⟨rfl, hB1⟩
  have hB := Below.then hB0 hB1
  have h1 := h.keep hB
  have c3 := (h1.cell 3).trans rfl
  have c6 := (h1.cell 6).trans rfl
  have f3 := h1.froz 3
  have hR := h1.ltR
  obtain ⟨W2, r1, r2, r3⟩ := MapOf.putVa (W := W1.setCell ⟨R, 3, none⟩ (.bool true)) (h1.mp.set h.ne _) hl
  dsimp only [Mx.VA] at r1
  go_wp2_with fail
  exact bodyPost_ret (results_none rfl _ _ _) rfl ⟨rfl, h1.elStep r3 r2, ((hB.mono h.big).setCell h.hR _).grown r3 (by simpa using h1.big) (by simp; exact h.hm)⟩

set_option maxRecDepth 100000 in
set_option maxHeartbeats 4000000 in
theorem param_bad (base R mb : Nat) (nm : ByteArray) (fn : Bool) (pv : Value) (ps : List ByteArray) (bv lv : Value) (l : List K) (t : K) (w : World)
    (h : Rd w base R mb nm fn pv ps false bv lv l) (ht : Mx.isP t Mx.EL = false) (hp : Mx.parOk ps t = false) (hx : t.text.size ≤ maxLen) :
    Calls Tryz.prog 83 #[.pointer (some ⟨R, 0, none⟩), kAgg t] w (BadPost base 61 w) := by
  have key := msign_any t Mx.EL
  rw [ht] at key
  have kn := fun w1 h1 => known_any base R mb nm fn pv ps false bv lv l t w1 h1 hx
  obtain ⟨kind, tx, f, a, b, bl⟩ := t
  dsimp only [kAgg] at key kn hx ⊢
  have hB0 : Below w.heap.size w (w.alloc (.cells #[.int .i64 kind, .string tx, .int .i64 f, .int .i64 a, .int .i64 b, .bool bl] 30)) := (Below.refl _ w).alloc (Nat.le_refl _) _
  have hblk := heap_alloc_new w (.cells #[.int .i64 kind, .string tx, .int .i64 f, .int .i64 a, .int .i64 b, .bool bl] 30)
  simp only [Mx.parOk, Bool.and_eq_false_iff, beq_eq_false_iff_ne, Bool.not_eq_false', decide_eq_true_iff] at hp
  go_enter Tryz.func83, Tryz.ntmps83
  go_wp2_with fail
  generalize (w.alloc (.cells #[.int .i64 kind, .string tx, .int .i64 f, .int .i64 a, .int .i64 b, .bool bl] 30)) = W at hB0 hblk ⊢
  refine (key _).mono ?_
  rintro e W1 ⟨rfl, hB1⟩
  have hbw := (hB1.block _ (lt_of_cell ((Lib.cell_of_heap hblk 0).trans rfl))).trans hblk
  have hB := Below.then hB0 hB1
  have h1 := h.keep hB
  have e0 := (Lib.cell_of_heap hbw 0).trans rfl
  have e1 := (Lib.cell_of_heap hbw 1).trans rfl
  have e2 := (Lib.cell_of_heap hbw 2).trans rfl
  have e3 := (Lib.cell_of_heap hbw 3).trans rfl
  have e4 := (Lib.cell_of_heap hbw 4).trans rfl
  have e5 := (Lib.cell_of_heap hbw 5).trans rfl
  by_cases hk : kind = 1
  · subst hk
    by_cases hv : tx = Mx.VA
    · have t2 : (tx.toList == [95, 95, 86, 65, 95, 65, 82, 71, 83, 95, 95]) = true := lit_yes hv
      clear hp hv
      go_wp2_with fail
      refine (must_no 61 _).mono ?_
      rintro e w1 ⟨rfl, rfl⟩
      exact ⟨rfl, rfl, hB.mono h.big⟩
    · have t2 : (tx.toList == [95, 95, 86, 65, 95, 65, 82, 71, 83, 95, 95]) = false := lit_no hv
      have hh : Mx.has ps tx = true := by simpa [hv] using hp
      have kn1 := kn _ h1
      rw [show Mx.known ps false ⟨1, tx, f, a, b, bl⟩ = true by simp [Mx.known, hh]] at kn1
      clear hp hv
      go_wp2_with fail
      refine kn1.mono ?_
      rintro e W2 ⟨rfl, hB2⟩
      go_wp2_with fail
      refine (must_no 61 _).mono ?_
      rintro e w1 ⟨rfl, rfl⟩
      exact ⟨rfl, rfl, (Below.then hB hB2).mono h.big⟩
  · have t3 : (kind == 1) = false := by simpa using hk
    clear hp hk
    go_wp2_with fail
    refine (must_no 61 _).mono ?_
    rintro e w1 ⟨rfl, rfl⟩
    exact ⟨rfl, rfl, hB.mono h.big⟩
end Go.Proofs.YtlepnafgcmeimaaGreatDoor

/- What is proved: param takes one more name. -/
namespace Go.Proofs.YtlepnafgcmeimaaGreatDoor
open Go.RowKit Go.Shelf Go.WideMaps

def ParPost (base R mb : Nat) (nm : ByteArray) (fn : Bool) (ps : List ByteArray) (bv lv : Value) (l : List K) (w : World) (e : Ending) (w' : World) : Prop :=
  e = .returned (.tuple #[]) ∧ ∃ pv, Rd w' base R mb nm fn pv ps false bv lv l ∧ Below base w w'

theorem Gr.drew (w : World) (u : Value) : Gr w w.drew u u := ⟨⟨rfl, rfl, rfl, Nat.le_refl _, fun _ _ _ => rfl⟩, fun _ h => .inl h⟩

set_option maxRecDepth 100000 in
set_option maxHeartbeats 4000000 in
theorem param_id (base R mb : Nat) (nm : ByteArray) (fn : Bool) (pv : Value) (ps : List ByteArray) (bv lv : Value) (l : List K) (t : K) (w : World)
    (h : Rd w base R mb nm fn pv ps false bv lv l) (ht : Mx.isP t Mx.EL = false) (hp : Mx.parOk ps t = true) (hx : t.text.size ≤ maxLen) (hl : (ps.length + 1) * 16 ≤ 140737488355328) :
    Calls Tryz.prog 83 #[.pointer (some ⟨R, 0, none⟩), kAgg t] w (ParPost base R mb nm fn (ps ++ [t.text]) bv lv l w) := by
  have key := msign_any t Mx.EL
  rw [ht] at key
  obtain ⟨i0, hi, hz0, hz1, hz2⟩ := info_parts infoStr
  have kn := fun w1 h1 => known_any base R mb nm fn pv ps false bv lv l t w1 h1 hx
  obtain ⟨kind, tx, f, a, b, bl⟩ := t
  dsimp only [kAgg] at key kn hx ⊢
  have hB0 : Below w.heap.size w (w.alloc (.cells #[.int .i64 kind, .string tx, .int .i64 f, .int .i64 a, .int .i64 b, .bool bl] 30)) := (Below.refl _ w).alloc (Nat.le_refl _) _
  have hblk := heap_alloc_new w (.cells #[.int .i64 kind, .string tx, .int .i64 f, .int .i64 a, .int .i64 b, .bool bl] 30)
  simp only [Mx.parOk, Bool.and_eq_true, beq_iff_eq, Bool.not_eq_true', decide_eq_false_iff_not] at hp
  obtain ⟨rfl, hv, hh⟩ := hp
  have t2 : (tx.toList == [95, 95, 86, 65, 95, 65, 82, 71, 83, 95, 95]) = false := lit_no hv
  rw [show Mx.known ps false ⟨1, tx, f, a, b, bl⟩ = false by simp [Mx.known, hh]] at kn
  go_enter Tryz.func83, Tryz.ntmps83
  go_wp2_with fail
  generalize (w.alloc (.cells #[.int .i64 1, .string tx, .int .i64 f, .int .i64 a, .int .i64 b, .bool bl] 30)) = W at hB0 hblk ⊢
  refine (key _).mono ?_
  rintro e W1 ⟨rfl, hB1⟩
  have hbw := (hB1.block _ (lt_of_cell ((Lib.cell_of_heap hblk 0).trans rfl))).trans hblk
  have hB := Below.then hB0 hB1
  have h1 := h.keep hB
  have e0 := (Lib.cell_of_heap hbw 0).trans rfl
  have e1 := (Lib.cell_of_heap hbw 1).trans rfl
  have e2 := (Lib.cell_of_heap hbw 2).trans rfl
  have e3 := (Lib.cell_of_heap hbw 3).trans rfl
  have e4 := (Lib.cell_of_heap hbw 4).trans rfl
  have e5 := (Lib.cell_of_heap hbw 5).trans rfl
  go_wp2_with fail
  refine (kn _ h1).mono ?_
  rintro e W2 ⟨rfl, hB2⟩
  have hbw2 := (hB2.block _ (lt_of_cell e0)).trans hbw
  replace hB := Below.then hB hB2
  go_wp2_with fail
  refine (must_ok 61 _).mono ?_
  rintro e W3 ⟨rfl, hW3⟩
  subst hW3
  have h2 := h.keep hB
  clear e0 e1 e2 e3 e4 e5 hbw hblk hB0 hB1 h1 hB2
  have e1 := (Lib.cell_of_heap hbw2 1).trans rfl
  have hbl := lt_of_cell e1
  have c6 := (h2.cell 6).trans rfl
  have hR := h2.ltR
  obtain ⟨W4, r1, r2, r3⟩ := MapOf.put (W := W3.drew) h2.mp tx hx (by unfold maxLen; omega)
  go_wp2_with fail
  have hBm := hB.mono h.big
  have hR4 : W4.heap[R]? = some (.cells #[.string nm, .bool fn, pv, .bool false, bv, lv, .map (some mb)] 101 (0, 0)) := (r3.block R h2.ltR (by simpa using Ne.symm h2.ne)).trans h2.blk
  have hbb : w.heap.size ≠ mb := fun e => by
    obtain ⟨n, D, hm1, _⟩ := h.mp
    have := hm1.lt; omega
  have hbw4 := (r3.block w.heap.size (lt_of_cell e1) (by simpa using hbb)).trans hbw2
  have hrow4 : W4.ownsRow base 9 1 pv ps.length (strCells ps) := row_heap h2.prow fun k e => r3.block k (h2.prow.lt k e).2 fun e' => h2.pm (by rw [e, e'])
  have hB4 : Below base w W4 := (Below.drew hBm).grown r3 h2.big (by simp; exact h2.hm)
  have hb4 : base ≤ W4.heap.size := Nat.le_trans h2.big r3.size
  have hltR := (Array.getElem?_eq_some_iff.1 hR4).1
  go_region
  clear e1 c6 hbl hR r1
  have c2 := (Lib.cell_of_heap hR4 2).trans rfl
  have f2 : W4.frozen? ⟨R, 2, none⟩ = false := by simp [World.frozen?, hR4]
  have e1 := (Lib.cell_of_heap hbw4 1).trans rfl
  have hRl := lt_of_cell c2
  have hbl := lt_of_cell e1
  have hne := h.pR
  have hRR := fun W' (hR : W'.heap[R]? = W4.heap[R]?) => World.cell?_of_block (w := W4) (w' := W') (a := ⟨R, 2, none⟩) hR
  obtain ⟨n, hn⟩ : ∃ n, n = ps.length := ⟨_, rfl⟩
  rw [← hn] at hl hrow4
  have HN := Lib.hid hn
  have HI := Lib.hid hi
  have HZ0 := Lib.hid hz0
  have HZ1 := Lib.hid hz1
  have HZ2 := Lib.hid hz2
  have HRW := Lib.hid hrow4
  have HC := Lib.hid c2
  have HF := Lib.hid f2
  have HNE := Lib.hid hne
  have HR2 := Lib.hid r2
  have HR3 := Lib.hid r3
  have H2 := Lib.hid h2
  have HB4 := Lib.hid hB4
  have HLT := Lib.hid hltR
  have HBS := Lib.hid hb4
  have hbase0 : base ≤ ((W4.alloc (.cells #[.string tx] 9)).drew).heap.size := by simp; omega
  clear hi hz0 hz1 hz2 hrow4 hne h r2 r3 hB hBm hR4 hbw4 hbw2 hB4 hn hbb hRR h2 hltR hb4
  go_wp2_with fail
  go_region_law ((refine step_append_lies _ rfl (.tmp 42) (.tmp 45) 22 rfl base 9 i0 _ 1 16 Tryz.underlying22 HI.out HZ0.out HZ1.out HZ2.out rfl (by omega) pv n (strCells ps) rfl ?_ ⟨W4.heap.size, 0, none⟩ 1 1 [.string tx] rfl rfl ?_ (by simp [Value.oneCell']) (by omega) (by unfold maxLen; omega) (by omega) ?_ (W4.heap.size + 1) ?_ ?_; exact ((HRW.out.alloc _).drew); exact cell_one_new _ _ _; exact hbase0; simp; intro g cap w1 hown hgrow hat hlt1; have hG1 := ((Gr.alloc W4 pv (.cells #[.string tx] 9)).trans (Gr.drew _ _)).trans (Gr.lies (n := n + 1) (cap := cap) hgrow (by simpa using hat)); have hc1w := (World.cell?_of_block (w := W4) (a := ⟨R, 2, none⟩) (hG1.block HLT.out HNE.out)).trans HC.out; have hfzw := (World.frozen?_of_block (w := W4) (a := ⟨R, 2, none⟩) (hG1.block HLT.out HNE.out)).trans HF.out))
  all_goals
    go_end0
    exact ⟨rfl, _, Rd.idStep (W := W3.drew) (W1 := W4) (H2.out.keep (Below.drew (Below.refl _ _))) HR3.out HR2.out hG1 (by rw [← HN.out]; exact hown), (HB4.out.trans (hG1.below HBS.out fun k e => (H2.out.prow.lt k e).1)).setCell H2.out.hR _⟩
end Go.Proofs.YtlepnafgcmeimaaGreatDoor
