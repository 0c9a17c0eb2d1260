/- What is proved: what shared tells, whole. (and what stands with it) -/
import Derived.Test.YtlepnafgcmeimaaGreatDoorGn
import Derived.Test.YtlepnafgcmeimaaGreatDoorGi
import Derived.Test.YtlepnafgcmeimaaGreatDoorGj
import Derived.Lib.MakeNoZero
import Derived.Lib.ReplaceLaws
import Derived.Deep.LoopGhost
import Derived.Test.YtlepnafgcmeimaaGreatDoorGm
import Derived.Deep.RegionHeld3
import Derived.Test.YtlepnafgcmeimaaGreatDoorGk
import Derived.Laws.OwnMore

/- What is proved: what shared tells, whole. -/
namespace Go.Proofs.YtlepnafgcmeimaaGreatDoor
open Go.RowKit Go.Shelf
open Ep (HT XS)
open Mx (M)

set_option maxRecDepth 100000 in
set_option maxHeartbeats 4000000 in
theorem shared_count (w W : World) (kb : Nat) (m : M) (ig io L icap : Nat) (ins : List HT) (cg ccap : Nat) (cs : List Nat) (N A : Nat) c3 c4 c5 c6 c7 c10 c11 c12 c13 c14 c15 c16 c17 c18 c19 c20 c21 c22 c23 c24 c25 c26 c27 c28 c29 c30 c31 c32 c33 c34 c35 c36 c37 c38 c39 c40 c41 c42 c43 c44 c45 c46 c47 c48 c49 c50 c51 c52 c53 c54 c55 c56 c57 c58 c59 c60 c61 c62 c63 c64 c65 c66 c67 c68 c69 c70 c71 c72 c73 c74 c75 c76 c77 c78 c79 c80 c81 c82 c83 c84 c85 c86 c87 c88 c89 c90 c91 c92 c93 (h : ShL w W kb m ig io L icap ins cg ccap cs [] (.slice none 0 0) [])
    (ho : InvOk ins cs) (hA : A = m.ps.length) (hN : N = 0 ∨ N + 1 = cs.length) (hL : L = ins.length) (hic : L ≤ icap) (hcb : cg < w.heap.size) (hkb : kb < w.heap.size) (hA1 : A ≤ 1000000) (r : Except Int (List (List HT)))
    (hr : r = if N < A || (decide (A < N) && !m.va) then .error 81 else .ok (((List.range A).map fun i => Ep.sl ins (cs.getD i 0 + 1) (cs.getD (i + 1) 0)) ++ (if m.va then [if A < N then Ep.sl ins (cs.getD A 0 + 1) (ins.length - 1) else []] else []))) :
    Code.wp Tryz.prog (secs 4 sharedBody) (bodyPost Tryz.prog Tryz.f79 (SharedPost w r))
      ⟨#[.pointer (some ⟨kb, 0, none⟩), .slice (some ⟨ig, io, none⟩) L icap, .slice (some ⟨cg, 0, none⟩) cs.length ccap, c3, c4, c5, c6, c7, .int .i64 (N : Int), .int .i64 (A : Int), c10, c11, c12, c13, c14, c15, c16, c17, c18, c19, c20, c21, c22, c23, c24, c25, c26, c27, c28, c29, c30, c31, c32, c33, c34, c35, c36, c37, c38, c39, c40, c41, c42, c43, c44, c45, c46, c47, c48, c49, c50, c51, c52, c53, c54, c55, c56, c57, c58, c59, c60, c61, c62, c63, c64, c65, c66, c67, c68, c69, c70, c71, c72, c73, c74, c75, c76, c77, c78, c79, c80, c81, c82, c83, c84, c85, c86, c87, c88, c89, c90, c91, c92, c93], []⟩ W := by
  obtain ⟨pv, bv, pp, hk⟩ := id h.kn
  obtain ⟨k0, k1, k2, k3, k4, k5⟩ := box6_cells hk
  have HH := Lib.hid h
  have HO := Lib.hid ho
  have HL := Lib.hid hL
  have HA := Lib.hid hA
  have hb := h.bl
  have HB := Lib.hid hb
  rcases Nat.lt_trichotomy N A with hlt | heq | hgt
  · have hr2 : r = .error 81 := by rw [hr, if_pos (by simp [hlt])]
    subst hr2
    have z1 : (N : Int) < A := by omega
    clear hk h ho hL hA hr hb
    refine wp_sec 4 sharedBody rfl ?_
    conv => arg 2; whnf
    go_wp2_with fail
    go_ret2
    exact ⟨rfl, by decide, HB.out⟩
  · subst heq
    have hr2 : r = .ok (((List.range N).map fun i => Ep.sl ins (cs.getD i 0 + 1) (cs.getD (i + 1) 0)) ++ (if m.va then [if N < N then Ep.sl ins (cs.getD N 0 + 1) (ins.length - 1) else []] else [])) := by
      rw [hr, if_neg (by simp)]
    obtain ⟨R, hR⟩ : ∃ R, R = (((List.range N).map fun i => Ep.sl ins (cs.getD i 0 + 1) (cs.getD (i + 1) 0)) ++ (if m.va then [if N < N then Ep.sl ins (cs.getD N 0 + 1) (ins.length - 1) else []] else [])) := ⟨_, rfl⟩
    rw [← hR] at hr2
    subst hr2
    have HR := Lib.hid hR
    have z1 : ¬ (N : Int) < N := by omega
    clear hk h ho hL hA hr hR hb
    refine wp_sec 4 sharedBody rfl ?_
    conv => arg 2; whnf
    go_wp2_with fail
    refine wp_sec 5 sharedBody rfl ?_
    conv => arg 2; whnf
    go_wp2_with fail
    exact shared_loop w W kb m ig io L icap ins cg ccap cs N N _ _ _ _ _ _ _ _ _ _ _ _ _ _ _ _ _ _ _ _ _ _ _ _ _ _ _ _ _ _ _ _ _ _ _ _ _ _ _ _ _ _ _ _ _ _ _ _ _ _ _ _ _ _ _ _ _ _ _ _ _ _ _ _ _ _ _ _ _ _ _ _ _ _ _ _ _ _ _ _ _ _ _ _ _ _ _ _ HH.out HO.out HA.out (by omega) hN HL.out hic hcb hkb hA1 R HR.out
  · cases hva : m.va with
    | false =>
      have hr2 : r = .error 81 := by rw [hr, if_pos (by simp [hgt, hva])]
      subst hr2
      rw [hva] at k3
      have z1 : ¬ (N : Int) < A := by omega
      have z2 : (A : Int) < N := by omega
      clear hk h ho hL hA hr hb
      refine wp_sec 4 sharedBody rfl ?_
      conv => arg 2; whnf
      go_wp2_with fail
      go_ret2
      exact ⟨rfl, by decide, HB.out⟩
    | true =>
      have hr2 : r = .ok (((List.range A).map fun i => Ep.sl ins (cs.getD i 0 + 1) (cs.getD (i + 1) 0)) ++ (if m.va then [if A < N then Ep.sl ins (cs.getD A 0 + 1) (ins.length - 1) else []] else [])) := by
        rw [hr, if_neg (by simp [hva]; omega)]
      obtain ⟨R, hR⟩ : ∃ R, R = (((List.range A).map fun i => Ep.sl ins (cs.getD i 0 + 1) (cs.getD (i + 1) 0)) ++ (if m.va then [if A < N then Ep.sl ins (cs.getD A 0 + 1) (ins.length - 1) else []] else [])) := ⟨_, rfl⟩
      rw [← hR] at hr2
      subst hr2
      have HR := Lib.hid hR
      rw [hva] at k3
      have z1 : ¬ (N : Int) < A := by omega
      have z2 : (A : Int) < N := by omega
      clear hk h ho hL hA hr hR hb
      refine wp_sec 4 sharedBody rfl ?_
      conv => arg 2; whnf
      go_wp2_with fail
      refine wp_sec 5 sharedBody rfl ?_
      conv => arg 2; whnf
      go_wp2_with fail
      exact shared_loop w W kb m ig io L icap ins cg ccap cs N A _ _ _ _ _ _ _ _ _ _ _ _ _ _ _ _ _ _ _ _ _ _ _ _ _ _ _ _ _ _ _ _ _ _ _ _ _ _ _ _ _ _ _ _ _ _ _ _ _ _ _ _ _ _ _ _ _ _ _ _ _ _ _ _ _ _ _ _ _ _ _ _ _ _ _ _ _ _ _ _ _ _ _ _ _ _ _ _ HH.out HO.out HA.out (by omega) hN HL.out hic hcb hkb hA1 R HR.out

set_option maxRecDepth 100000 in
set_option maxHeartbeats 4000000 in
/-- A macro that takes arguments. -/
theorem eshared_fn (kb : Nat) (m : M) (pv bv pp iv cv : Value) (ins : List HT) (cs : List Nat) (w : World) (hk : w.heap[kb]? = some (.cells #[.string m.name, .bool m.fn, pv, .bool m.va, bv, pp] 85 (0, 0))) (hf : m.fn = true)
    (hp : ∃ ap cp, pv = .slice ap m.ps.length cp) (hI : Hs w iv ins) (hC : ∃ B, IRow w B cv cs) (ho : InvOk ins cs) (hps : m.ps.length ≤ 1000000) :
    Calls Tryz.prog 79 #[.pointer (some ⟨kb, 0, none⟩), iv, cv] w (SharedPost w (Ep.shared m ins cs)) := by
  obtain ⟨ap, cp, rfl⟩ := hp
  obtain ⟨B, hC⟩ := hC
  obtain ⟨cg, ccap, rfl, hcl, hcc⟩ := irow_get hC ho.ne
  have hpos : 0 < ins.length := by have := ho.last; omega
  obtain ⟨iad, icap, rfl, hic, hic2⟩ := hI.form
  obtain ⟨ig, io, rfl, -⟩ := hI.cells hpos
  have hkl := lt_of_heap hk
  have hS : ShL w (w.drewN 0) kb m ig io ins.length icap ins cg ccap cs [] (.slice none 0 0) [] := ⟨⟨_, _, _, hk⟩, hI.below (Below.drewN (Below.refl _ _) _), ⟨hcl, hcc⟩, LRow.nil _ _, Below.drewN (Below.refl _ _) _⟩
  have hS2 := fun k => ShL.below (W' := w.drewN k) hS (Below.drewN (Below.refl _ _) _)
  obtain ⟨k0, k1, k2, k3, k4, k5⟩ := box6_cells hk
  rw [hf] at k1
  obtain ⟨L, hL⟩ : ∃ L, L = ins.length := ⟨_, rfl⟩
  obtain ⟨A, hA⟩ : ∃ A, A = m.ps.length := ⟨_, rfl⟩
  obtain ⟨N, hN⟩ : ∃ N, N = if m.ps.length = 0 && ins.length = 2 then 0 else cs.length - 1 := ⟨_, rfl⟩
  have hr : Ep.shared m ins cs = if N < A || (decide (A < N) && !m.va) then .error 81 else .ok (((List.range A).map fun i => Ep.sl ins (cs.getD i 0 + 1) (cs.getD (i + 1) 0)) ++ (if m.va then [if A < N then Ep.sl ins (cs.getD A 0 + 1) (ins.length - 1) else []] else [])) := by
    unfold Ep.shared
    rw [hf, if_neg (by decide), hN, hA]
  obtain ⟨r, hrr⟩ : ∃ r, r = Ep.shared m ins cs := ⟨_, rfl⟩
  rw [← hrr] at hr ⊢
  have h0 := ho.ne
  have hNN : N = 0 ∨ N + 1 = cs.length := by
    rw [hN]
    split
    · exact .inl rfl
    · right; omega
  have hsz := ho.size
  have hbd := ho.bound
  rw [← hA, ← hL] at hN
  rw [← hA] at k2 hps
  rw [← hL] at hic hbd hsz hS2 ⊢
  have HS := Lib.hid hS2
  have HO := Lib.hid ho
  have HL := Lib.hid hL
  have HA := Lib.hid hA
  have HR := Lib.hid hr
  have z0 : IntKind.i64.wrap ((cs.length : Int) - 1) = ((cs.length - 1 : Nat) : Int) := by rw [IntWalk.i64_in _ (by omega)]; omega
  obtain ⟨C, hCC⟩ : ∃ C, C = cs.length - 1 := ⟨_, rfl⟩
  rw [← hCC] at z0 hN
  clear hk hI hC hcc ho hL hA hr hrr hS hS2 hCC
  go_enter Tryz.func79, Tryz.ntmps79
  show Code.wp Tryz.prog (secs 0 sharedBody) _ _ _
  refine wp_sec 0 sharedBody rfl ?_
  conv => arg 2; whnf
  go_wp2_with fail
  refine wp_sec 1 sharedBody rfl ?_
  conv => arg 2; whnf
  go_wp2_with fail
  refine wp_sec 2 sharedBody rfl ?_
  conv => arg 2; whnf
  go_wp2_with fail
  go_quiet (fail)
  refine wp_sec 3 sharedBody rfl ?_
  conv => arg 2; whnf
  by_cases h1 : A = 0
  · by_cases h2 : L = 2
    · have hN0 : N = 0 := by rw [hN]; simp [h1, h2]
      clear hN
      have q1 : (A : Int) = 0 := by omega
      have q2 : (L : Int) = 2 := by omega
      subst hN0 h1 h2
      go_wp2_with fail
      exact shared_count w _ kb m ig io 2 icap ins cg ccap cs 0 0 _ _ _ _ _ _ _ _ _ _ _ _ _ _ _ _ _ _ _ _ _ _ _ _ _ _ _ _ _ _ _ _ _ _ _ _ _ _ _ _ _ _ _ _ _ _ _ _ _ _ _ _ _ _ _ _ _ _ _ _ _ _ _ _ _ _ _ _ _ _ _ _ _ _ _ _ _ _ _ _ _ _ _ _ _ _ _ _ _ (HS.out _) HO.out HA.out (.inl rfl) HL.out hic hcl hkl hps r HR.out
    · have hN0 : N = C := by rw [hN]; simp [h2]
      clear hN
      have q2 : ¬ (L : Int) = 2 := by omega
      have q3 : ¬ L = 2 := h2
      have q4 : ((L : Int) == 2) = false := by simpa using q2
      subst hN0 h1
      go_wp2_with fail
      exact shared_count w _ kb m ig io L icap ins cg ccap cs N 0 _ _ _ _ _ _ _ _ _ _ _ _ _ _ _ _ _ _ _ _ _ _ _ _ _ _ _ _ _ _ _ _ _ _ _ _ _ _ _ _ _ _ _ _ _ _ _ _ _ _ _ _ _ _ _ _ _ _ _ _ _ _ _ _ _ _ _ _ _ _ _ _ _ _ _ _ _ _ _ _ _ _ _ _ _ _ _ _ _ (HS.out _) HO.out HA.out hNN HL.out hic hcl hkl hps r HR.out
  · have hN0 : N = C := by rw [hN]; simp [h1]
    clear hN
    have q2 : ¬ (A : Int) = 0 := by omega
    have q4 : ((A : Int) == 0) = false := by simpa using q2
    subst hN0
    go_wp2_with fail
    exact shared_count w _ kb m ig io L icap ins cg ccap cs N A _ _ _ _ _ _ _ _ _ _ _ _ _ _ _ _ _ _ _ _ _ _ _ _ _ _ _ _ _ _ _ _ _ _ _ _ _ _ _ _ _ _ _ _ _ _ _ _ _ _ _ _ _ _ _ _ _ _ _ _ _ _ _ _ _ _ _ _ _ _ _ _ _ _ _ _ _ _ _ _ _ _ _ _ _ _ _ _ _ (HS.out _) HO.out HA.out hNN HL.out hic hcl hkl hps r HR.out
end Go.Proofs.YtlepnafgcmeimaaGreatDoor

/- What is proved: a closure that appends the token that it is handed to a captured slice. -/
namespace Go.Proofs.YtlepnafgcmeimaaGreatDoor
open Go.RowKit Go.Shelf

theorem row_form {w : World} {base e sz n : Nat} {v : Value} {xs : List Value} (h : w.ownsRow base e sz v n xs) : ∃ a m c, v = .slice a m c := by
  rcases h.2 with ⟨h', _⟩ | ⟨g, cap, cur, h', _⟩
  · exact ⟨_, _, _, h'⟩
  · exact ⟨_, _, _, h'⟩
theorem six_new (w : World) (o : Obj) (a b c d e f : Value) (t : TypeId) : ∀ j u, [a, b, c, d, e, f][j]? = some u → ((w.alloc o).alloc (.cells #[a, b, c, d, e, f] t)).cell? ((⟨w.heap.size + 1, 0, none⟩ : Addr).add j) = some u := by
  intro j u hj
  have hz : (w.alloc o).heap.size = w.heap.size + 1 := World.size_alloc w o
  rw [← hz]
  generalize w.alloc o = W
  match j, hj with
  | 0, hj => simp at hj; subst hj; simp [Addr.add]
  | 1, hj => simp at hj; subst hj; simp [Addr.add]
  | 2, hj => simp at hj; subst hj; simp [Addr.add]
  | 3, hj => simp at hj; subst hj; simp [Addr.add]
  | 4, hj => simp at hj; subst hj; simp [Addr.add]
  | 5, hj => simp at hj; subst hj; simp [Addr.add]
  | j + 6, hj => simp at hj
theorem grown_set (w : World) (b o : Nat) (v : Value) : w.grownBy (w.setCell ⟨b, o, none⟩ v) (some b) :=
  ⟨rfl, rfl, rfl, by simp, fun k _ hne => heap_setCell_other w ⟨b, o, none⟩ k v (fun e => hne (by rw [e]))⟩

/-- Block b holds a slice of tokens, in a row of its own that lies from block B on. -/
def RowB (B b : Nat) (acc : List K) (w : World) : Prop := ∃ v, w.heap[b]? = some (.cells #[v] 27 (0, 0)) ∧ w.ownsRow B 30 6 v acc.length (ksCells acc) ∧ B ≤ b ∧ v.ownBlock ≠ some b
theorem RowB.new (w : World) : RowB w.heap.size w.heap.size [] (w.alloc (.cells #[.slice none 0 0] 27)) :=
  ⟨.slice none 0 0, heap_alloc_new w _, World.ownsRow_nil _ _ _ _, Nat.le_refl _, by simp [Value.ownBlock]⟩
theorem RowB.alloc {B b : Nat} {acc : List K} {w : World} (h : RowB B b acc w) (o : Obj) : RowB B b acc (w.alloc o) := by
  obtain ⟨v, h1, h2, h3, h4⟩ := h
  exact ⟨v, (Below.heap_alloc _ o _ (lt_of_heap h1)).trans h1, h2.alloc o, h3, h4⟩
theorem RowB.lt {B b : Nat} {acc : List K} {w : World} (h : RowB B b acc w) : b < w.heap.size := by
  obtain ⟨v, h1, _⟩ := h; exact lt_of_heap h1
/-- A cell of another block, that is younger, is written. -/
theorem RowB.below {B b n : Nat} {acc : List K} {w w' : World} (h : RowB B b acc w) (hb : Below n w w') (hn : w.heap.size ≤ n) : RowB B b acc w' := by
  obtain ⟨v, h1, h2, h3, h4⟩ := h
  refine ⟨v, (hb.block b (Nat.lt_of_lt_of_le (lt_of_heap h1) hn)).trans h1, ⟨h2.1, ?_⟩, h3, h4⟩
  rcases h2.2 with h | ⟨g, cap, cur, rfl, hg, hgg, rest⟩
  · exact .inl h
  · exact .inr ⟨g, cap, cur, rfl, hg, (hb.block g (Nat.lt_of_lt_of_le (lt_of_heap hgg) hn)).trans hgg, rest⟩
theorem RowB.ks {B b : Nat} {acc : List K} {w : World} (h : RowB B b acc w) : ∃ v, w.cell? ⟨b, 0, none⟩ = some v ∧ Ks w v acc := by
  obtain ⟨v, h1, h2, _⟩ := h
  exact ⟨v, by rw [Lib.cell_of_heap h1]; rfl, Ks.of_row h2⟩

end Go.Proofs.YtlepnafgcmeimaaGreatDoor

/- What is proved: what strings.Replace and strings.ReplaceAll tell where one byte becomes two; what guarded tells. -/
namespace Go.Proofs.YtlepnafgcmeimaaGreatDoor
open Go.RowKit Go.Shelf

namespace Gl
/-- A backslash ahead of each such byte. -/
def dbl (c : UInt8) (l : List UInt8) : List UInt8 := l.flatMap fun x => if x = c then [92, x] else [x]
theorem dbl_nil (c : UInt8) : dbl c [] = [] := rfl
theorem dbl_hit (c : UInt8) (l : List UInt8) : dbl c (c :: l) = 92 :: c :: dbl c l := by simp [dbl]
theorem dbl_miss {c x : UInt8} (l : List UInt8) (h : x ≠ c) : dbl c (x :: l) = x :: dbl c l := by simp [dbl, h]
theorem dbl_none {c : UInt8} : ∀ {l : List UInt8}, l.count c = 0 → dbl c l = l
  | [], _ => rfl
  | x :: l, h => by
    by_cases hx : x = c
    · subst hx; simp at h
    · rw [dbl_miss l hx, dbl_none (by rwa [List.count_cons_of_ne (by simpa using hx)] at h)]
theorem dbl_length (c : UInt8) : ∀ l : List UInt8, (dbl c l).length = l.length + l.count c
  | [] => rfl
  | x :: l => by
    have ih := dbl_length c l
    by_cases hx : x = c
    · subst hx; rw [dbl_hit]; simp [ih]; omega
    · rw [dbl_miss l hx, List.count_cons_of_ne (by simpa using hx)]; simp [ih]; omega
theorem dbl_count (c d : UInt8) (h : c ≠ d) (h92 : c ≠ 92) : ∀ l : List UInt8, (dbl d l).count c = l.count c
  | [] => rfl
  | x :: l => by
    have ih := dbl_count c d h h92 l
    by_cases hx : x = d
    · subst hx
      rw [dbl_hit, List.count_cons_of_ne (by simpa using Ne.symm h92), List.count_cons_of_ne (by simpa using Ne.symm h), List.count_cons_of_ne (by simpa using Ne.symm h), ih]
    · rw [dbl_miss l hx, List.count_cons, List.count_cons, ih]
theorem dbl_esc : ∀ l : List UInt8, dbl 34 (dbl 92 l) = esc l
  | [] => rfl
  | x :: l => by
    have ih := dbl_esc l
    by_cases h1 : x = 92
    · subst h1
      rw [dbl_hit, dbl_miss _ (by decide), dbl_miss _ (by decide), ih]; simp [esc]
    · rw [dbl_miss l h1]
      by_cases h2 : x = 34
      · subst h2; rw [dbl_hit, ih]; simp [esc]
      · rw [dbl_miss _ h2, ih]; simp [esc, h1, h2]
theorem idx_one (c : UInt8) : ∀ l : List UInt8, 0 < l.count c → ∃ j : Nat, Lib.index l [c] = j ∧ j < l.length ∧ dbl c l = l.take j ++ [92, c] ++ dbl c (l.drop (j + 1)) ∧ (l.drop (j + 1)).count c + 1 = l.count c
  | [], h => by simp at h
  | x :: l, h => by
    by_cases hx : x = c
    · subst hx
      exact ⟨0, by simp [Lib.index], by simp, by simp [dbl_hit], by simp⟩
    · have hc : 0 < l.count c := by rwa [List.count_cons_of_ne (by simpa using hx)] at h
      obtain ⟨j, h1, h2, h3, h4⟩ := idx_one c l hc
      refine ⟨j + 1, ?_, by simp; omega, ?_, ?_⟩
      · have hne : ¬ ((j : Int) == -1) = true := by simp
        have hp : ([c].isPrefixOf (x :: l)) = false := by simp [List.isPrefixOf]; exact fun e => hx e.symm
        rw [Lib.index, if_neg (by rw [hp]; simp), h1, if_neg hne]
        rfl
      · rw [dbl_miss l hx, h3]; simp
      · rw [List.count_cons_of_ne (by simpa using hx)]; simpa using h4
end Gl

set_option maxRecDepth 100000 in
set_option maxHeartbeats 2000000 in
theorem bgrow_any (b n : Nat) (w : World) (hbk : w.heap[b]? = some (.cells #[.pointer (some ⟨b, 0, none⟩), .slice none 0 0] 72 (0, 0))) (hn : n ≤ 281474976710656) :
    Calls Tryz.prog 110 #[.pointer (some ⟨b, 0, none⟩), .int .i64 n] w fun e w' => e = .returned (.tuple #[]) ∧ Bld b [] w' ∧ Below b w w' := by
  obtain ⟨i0, hi, hz0, hz1, hz2⟩ := info_parts info5
  have hlt := lt_of_heap hbk
  obtain ⟨cs, hrun, -, hmax⟩ := Lib.run_makeNoZero (P := Tryz.prog) w.drew #[3] 70 5 Tryz.underlying70 n hn
  have hw : IntKind.i64.wrap (IntKind.i64.wrap 0 + (n : Int)) = n := by
    rw [IntKind.wrap_i64, IntKind.wrap_i64]
    omega
  have hcall : (callFunc 112 #[.int .i64 (IntKind.i64.wrap (IntKind.i64.wrap 0 + (n : Int)))]).run Tryz.prog w.drew = .ok (.value (.slice (some ⟨w.drew.heap.size, 0, none⟩) n cs.size)) (w.drew.drew.drew.alloc (.cells cs 5)) := by
    rw [hw, run_callFunc_extern Tryz.func112 (by kernel_rfl) (by kernel_rfl) (by kernel_rfl) (e := Extern.BytealgMakeNoZero.makeNoZero #[3] #[70]) (by kernel_rfl), hrun]
    rfl
  have c1 : w.drew.cell? ⟨b, 1, none⟩ = some (.slice none 0 0) := by
    rw [show w.drew.cell? ⟨b, 1, none⟩ = w.cell? ⟨b, 1, none⟩ from rfl, Lib.cell_of_heap hbk]; rfl
  have hb2 : (w.alloc (.cells cs 5)).heap[b]? = some (.cells #[.pointer (some ⟨b, 0, none⟩), .slice none 0 0] 72 (0, 0)) := (Lib.alloc_old w _ b hlt).trans hbk
  have c2 : (w.alloc (.cells cs 5)).cell? ⟨b, 1, none⟩ = some (.slice none 0 0) := by rw [Lib.cell_of_heap hb2]; rfl
  have f2 : (w.alloc (.cells cs 5)).frozen? ⟨b, 1, none⟩ = false := Lib.frozen_of_heap hb2 1
  have hcopy : ∀ W : World, (Builtin.copy_ #[70, 70] 3 #[.slice (some ⟨w.heap.size, 0, none⟩) 0 cs.size, .slice none 0 0]).run Tryz.prog W = .ok (goInt 0) W :=
    fun W => run_copy_none W 70 70 3 5 _ _ 0 cs.size 0 0 Tryz.underlying70 (by kernel_rfl) rfl
  have hfin := Lib.grown_fresh (T := 72) (e := 5) (cs := cs) (Nat.le_refl b) hbk (Nat.le_of_lt hlt) (hmax (by unfold maxLen; omega)) (by decide)
  have HF := Lib.hid hfin
  clear hw hfin hbk hb2 hmax hrun hlt
  go_enter Tryz.func110, Tryz.ntmps110
  go_wp2
  go_region
  all_goals (go_wp2; go_end0; exact ⟨rfl, Lib.IsBuilderF.of (Or.inr HF.out.1), HF.out.2⟩)

set_option maxRecDepth 100000 in
set_option maxHeartbeats 2000000 in
theorem bGrow_any (b n : Nat) (w : World) (hbk : w.heap[b]? = some (.cells #[.pointer none, .slice none 0 0] 72 (0, 0))) (hn : n ≤ 281474976710656) :
    Calls Tryz.prog 108 #[.pointer (some ⟨b, 0, none⟩), .int .i64 n] w fun e w' => e = .returned (.tuple #[]) ∧ Bld b [] w' ∧ Below b w w' := by
  have hbk1 : (w.setCell ⟨b, 0, none⟩ (.pointer (some ⟨b, 0, none⟩))).heap[b]? = some (.cells #[.pointer (some ⟨b, 0, none⟩), .slice none 0 0] 72 (0, 0)) := by
    simp [World.setCell, Array.getElem?_modify, hbk]
  have hb1 : Below b w (w.setCell ⟨b, 0, none⟩ (.pointer (some ⟨b, 0, none⟩))) := (Below.refl b w).setCell (p := ⟨b, 0, none⟩) (Nat.le_refl _) _
  have k0 : w.cell? ⟨b, 0, none⟩ = some (.pointer none) := by rw [Lib.cell_of_heap hbk]; rfl
  have ks : w.shape? b = some (72, 2) := by simp [World.shape?, hbk]
  have kf : w.frozen? ⟨b, 0, none⟩ = false := Lib.frozen_of_heap hbk 0
  have KS := Lib.hid ks
  have KF := Lib.hid kf
  have HB1 := Lib.hid hb1
  have HK1 := Lib.hid hbk1
  clear hbk1 hb1 hbk ks kf
  go_enter Tryz.func108, Tryz.ntmps108
  go_wp2_with fail
  refine (check_fresh b w k0 KS.out KF.out).mono ?_
  rintro e w1 ⟨rfl, hw1⟩
  have hk1 : w1.heap[b]? = some (.cells #[.pointer (some ⟨b, 0, none⟩), .slice none 0 0] 72 (0, 0)) := by rw [hw1]; exact HK1.out
  have hb1 : Below b w w1 := by rw [hw1]; exact HB1.out
  have c1 : w1.cell? ⟨b, 1, none⟩ = some (.slice none 0 0) := by rw [Lib.cell_of_heap hk1]; rfl
  have hU : Bld b [] w1 := Or.inr ⟨Nat.le_refl b, .slice none 0 0, hk1, ⟨by simp [Lib.byteCells], .inl ⟨rfl, rfl⟩⟩, by simp [Value.ownBlock]⟩
  have HK := Lib.hid hk1
  have HB := Lib.hid hb1
  have HU := Lib.hid hU
  clear hw1 hk1 hb1 hU HB1 HK1 k0 KS KF
  go_wp2_with fail
  go_quiet (fail)
  by_cases h0 : (0 : Int) < n
  · go_wp2_with fail
    refine (bgrow_any b n (w1.drewN nq) (show w1.heap[b]? = _ from HK.out) hn).mono ?_
    rintro e w2 ⟨rfl, h2, hb2⟩
    go_wp2_with fail
    go_end0
    exact ⟨rfl, h2, (below_drewN HB.out _).trans hb2⟩
  · go_wp2_with fail
    go_end0
    exact ⟨rfl, HU.out, below_drewN HB.out _⟩
end Go.Proofs.YtlepnafgcmeimaaGreatDoor

/- What is proved: what strings.Replace, strings.ReplaceAll tell where one byte becomes two; what guarded tells. -/
namespace Go.Proofs.YtlepnafgcmeimaaGreatDoor
open Go.RowKit Go.Shelf

theorem count_one (s : ByteArray) (c : UInt8) (w : World) :
    Calls Tryz.prog 72 #[.string s, .string ⟨#[c]⟩] w fun e w' => e = .returned (.int .i64 ((s.data.toList.count c : Nat) : Int)) ∧ w = w' :=
  (Any.strings_Count_one lays138 s c w).mono fun _ _ h => ⟨h.1, h.2.symm⟩
theorem index_one (s : ByteArray) (c : UInt8) (w : World) (hG : Glob w) (hs : s.size ≤ 4000000000) :
    Calls Tryz.prog 53 #[.string s, .string ⟨#[c]⟩] w fun e w' => e = .returned (.int .i64 (Lib.index s.data.toList [c])) ∧ w = w' := by
  obtain ⟨⟨m, hm⟩, _⟩ := hG
  exact (Any.strings_Index lays143 s ⟨#[c]⟩ m w (by omega) hm).mono fun _ _ h => ⟨h.1, h.2.symm⟩

set_option maxRecDepth 100000 in
set_option maxHeartbeats 4000000 in
theorem sreplace_any (s : ByteArray) (c : UInt8) (w : World) (hG : Glob w) (hs : s.size ≤ 1000000000) :
    Calls Tryz.prog 106 #[.string s, .string ⟨#[c]⟩, .string ⟨#[92, c]⟩, .int .i64 (-1)] w fun e w' => e = .returned (.string ⟨(Gl.dbl c s.data.toList).toArray⟩) ∧ Below w.heap.size w w' := by
  obtain ⟨cn, hcn⟩ : ∃ cn, cn = s.data.toList.count c := ⟨_, rfl⟩
  have hC := count_one s c
  rw [← hcn] at hC
  have hlen : s.data.toList.length = s.size := size_list s
  have hcs : cn ≤ s.size := by rw [hcn, ← hlen]; exact List.count_le_length
  have hIx := fun (t : ByteArray) (w : World) (h : Glob w) (ht : t.size ≤ 4000000000) => index_one t c w h ht
  obtain ⟨od, hod⟩ : ∃ od : ByteArray, od = ⟨#[c]⟩ := ⟨_, rfl⟩
  obtain ⟨nw, hnw⟩ : ∃ nw : ByteArray, nw = ⟨#[92, c]⟩ := ⟨_, rfl⟩
  rw [← hod] at hC hIx
  rw [← hod, ← hnw]
  have so : od.size = 1 := by rw [hod]; rfl
  have sn : nw.size = 2 := by rw [hnw]; rfl
  have hnl : nw.data.toList = [92, c] := by rw [hnw]
  have hbeq : (od.toList == nw.toList) = false := by
    rw [beq_eq_false_iff_ne]
    intro e
    have := congrArg List.length e
    rw [Lib.toList_data, Lib.toList_data, size_list, size_list] at this
    omega
  have HC := Lib.hid hC
  have HIX := Lib.hid hIx
  have HCN := Lib.hid hcn
  have HNL := Lib.hid hnl
  have HG := Lib.hid hG
  have HSO := Lib.hid so
  have HSN := Lib.hid sn
  have HLEN := Lib.hid hlen
  by_cases h0 : cn = 0
  · have hz : ((cn : Int) == 0) = true := by rw [beq_iff_eq]; omega
    have hres : (⟨(Gl.dbl c s.data.toList).toArray⟩ : ByteArray) = s := by rw [Gl.dbl_none (by rw [← hcn]; exact h0), Lib.mk_data]
    rw [hres]
    clear hC hIx hcn hod hnw hnl hG hlen h0 so sn hres
    go_enter Tryz.func106, Tryz.ntmps106
    go_wp2_with fail
    refine (HC.out _).mono ?_
    rintro e w1 ⟨rfl, rfl⟩
    go_wp2_with fail
    go_ret
    exact ⟨rfl, Below.refl _ _⟩
  · have hz : ((cn : Int) == 0) = false := by rw [beq_eq_false_iff_ne]; omega
    have hdec : decide (0 < od.size) = true := decide_eq_true (by omega)
    have hga := Lib.grow_arg s.size cn nw.size od.size (by omega) (by rw [so]; omega) (by rw [sn]; omega)
    have hgn : s.size + cn * nw.size - cn * od.size = s.size + cn := by rw [so, sn]; omega
    rw [hgn] at hga
    clear hgn hC hIx hcn hod hnw hnl hG hlen so sn
    obtain ⟨R, hR⟩ : ∃ R, R = Gl.dbl c s.data.toList := ⟨_, rfl⟩
    rw [← hR]
    have HR := Lib.hid hR
    clear hR
    go_enter Tryz.func106, Tryz.ntmps106
    go_wp2_with fail
    refine (HC.out _).mono ?_
    rintro e w1 ⟨rfl, rfl⟩
    go_wp2_with fail
    have e1 : ((s.size : Int) + (cn : Int)) = ((s.size + cn : Nat) : Int) := by omega
    rw [e1]
    refine (bGrow_any w.heap.size (s.size + cn) _ (heap_alloc_new w _) (by omega)).mono ?_
    rintro e w1 ⟨rfl, hb1, hB1⟩
    replace hB1 := ((Below.refl w.heap.size w).alloc (Nat.le_refl _) _).trans hB1
    clear e1 hga
    go_wp2_with fail
    go_loopw [11, 53] (fun s11 s53 wr => ∃ (i start : Nat) (acc : List UInt8), s53 = .int .i64 i ∧ s11 = .int .i64 start ∧ start ≤ s.size ∧ i ≤ cn ∧ Bld w.heap.size acc wr ∧ Below w.heap.size w wr ∧ acc ++ Gl.dbl c (s.data.toList.drop start) = R ∧ (s.data.toList.drop start).count c + i = cn ∧ acc.length ≤ start + i) (fun _ i _ => cn - (intOf i).toNat)
    case atStart => exact ⟨0, 0, [], rfl, rfl, Nat.zero_le _, Nat.zero_le _, hb1, hB1, by simpa using HR.out.symm, by simpa using HCN.out.symm, by simp⟩
    case round =>
      obtain ⟨i, start, acc, rfl, rfl, hst, hi, hb, hB, hacc, hct, hal⟩ := hrel
      have HACC := Lib.hid hacc
      have HCT := Lib.hid hct
      have HBL := Lib.hid hb
      have HB := Lib.hid hB
      have HAL := Lib.hid hal
      have z1 : (0 : Int) ≤ start := by omega
      have z2 : (start : Int) ≤ s.size := by omega
      have ex : (s.extract start s.size).data.toList = s.data.toList.drop start := by
        rw [extract_list]
        show ((s.data.toList.drop start).take (s.size - start)) = _
        rw [List.take_of_length_le (by rw [List.length_drop, HLEN.out]; omega)]
      have exs : (s.extract start s.size).size = s.size - start := by rw [← size_list, ex, List.length_drop, HLEN.out]
      have HEX := Lib.hid ex
      have HEXS := Lib.hid exs
      clear hacc hct hb hB hal ex exs hB1 hb1
      by_cases hlt : i < cn
      · obtain ⟨j, hj1, hj2, hj3, hj4⟩ := Gl.idx_one c (s.data.toList.drop start) (by have := HCT.out; omega)
        have y1 : (i : Int) < cn := by omega
        rw [List.length_drop, HLEN.out] at hj2
        have y2 : (start : Int) + j ≤ s.size := by omega
        have y3 : (start : Int) ≤ (start : Int) + j := by omega
        have hI := HIX.out (s.extract start s.size) wr (HG.out.later HB.out) (by rw [HEXS.out]; omega)
        rw [HEX.out, hj1] at hI
        have hE1 : (s.extract start (start + j)).data.toList = (s.data.toList.drop start).take j := by
          rw [extract_list, show start + j - start = j by omega]
        have hE2 : (s.extract start (start + j)).size = j := by rw [← size_list, hE1, List.length_take, List.length_drop, HLEN.out]; omega
        rw [List.drop_drop] at hj3 hj4
        have HJ3 := Lib.hid hj3
        have HJ4 := Lib.hid hj4
        have HE1 := Lib.hid hE1
        have HE2 := Lib.hid hE2
        clear hj1 hj3 hj4 hE1 hE2
        go_wp2_with fail
        refine hI.mono ?_
        rintro e w2 ⟨rfl, rfl⟩
        clear hI
        go_wp2_with fail
        refine (wstring_any w.heap.size acc (s.extract start (start + j)) _ HBL.out (by have := HAL.out; omega) (by rw [HE2.out]; omega)).mono ?_
        rintro e W3 ⟨rfl, b3, hB3⟩
        rw [HE1.out] at b3
        have B3 := Lib.hid b3
        have HB3 := Lib.hid (HB.out.trans hB3)
        clear b3 hB3
        go_wp2_with fail
        refine (wstring_any w.heap.size _ nw _ B3.out (by have := HAL.out; rw [List.length_append, List.length_take]; omega) (by rw [HSN.out]; omega)).mono ?_
        rintro e W4 ⟨rfl, b4, hB4⟩
        rw [HNL.out] at b4
        have B4 := Lib.hid b4
        have HB4 := Lib.hid (HB3.out.trans hB4)
        clear b4 hB4
        go_wp2_with fail
        go_roundw
        case measure => simp [intOf]; omega
        case rel => exact ⟨i + 1, start + (j + 1), _, by go_num, by rw [HSO.out]; exact congrArg (Value.int .i64) (by rw [IntWalk.wrap64_in _ ⟨by omega, by omega⟩]; omega), by omega, by omega, B4.out, HB4.out, by rw [← HACC.out, HJ3.out]; simp, by have := HJ4.out; have := HCT.out; omega, by have := HAL.out; simp only [List.length_append, List.length_take, List.length_cons, List.length_nil]; omega⟩
      · have y1 : ¬ (i : Int) < cn := by omega
        have hfin : acc ++ s.data.toList.drop start = R := by
          have := HACC.out
          rwa [Gl.dbl_none (by have := HCT.out; omega)] at this
        have HFIN := Lib.hid hfin
        clear hfin
        go_wp2_with fail
        refine (wstring_any w.heap.size acc (s.extract start s.size) _ HBL.out (by have := HAL.out; omega) (by rw [HEXS.out]; omega)).mono ?_
        rintro e W3 ⟨rfl, b3, hB3⟩
        rw [HEX.out, HFIN.out] at b3
        have B3 := Lib.hid b3
        have HB3 := Lib.hid (HB.out.trans hB3)
        clear b3 hB3
        go_wp2_with fail
        refine (bstring_any w.heap.size w.heap.size R _ B3.out HB3.out.size).mono ?_
        rintro e W4 ⟨rfl, hB4⟩
        go_wp2_with fail
        go_ret
        exact ⟨rfl, HB3.out.trans hB4⟩

set_option maxHeartbeats 1000000 in
theorem sreplaceall_any (s : ByteArray) (c : UInt8) (w : World) (hG : Glob w) (hs : s.size ≤ 1000000000) :
    Calls Tryz.prog 102 #[.string s, .string ⟨#[c]⟩, .string ⟨#[92, c]⟩] w fun e w' => e = .returned (.string ⟨(Gl.dbl c s.data.toList).toArray⟩) ∧ Below w.heap.size w w' := by
  have key := sreplace_any s c w hG hs
  go_enter Tryz.func102, Tryz.ntmps102
  go_wp2_with fail
  refine key.mono ?_
  rintro e w1 ⟨rfl, hB⟩
  go_wp2_with fail
  go_ret
  exact ⟨rfl, hB⟩

set_option maxHeartbeats 1000000 in
theorem guarded_any (s : ByteArray) (w : World) (hG : Glob w) (hs : s.size ≤ 400000000) :
    Calls Tryz.prog 95 #[.string s] w fun e w' => e = .returned (.string ⟨(Gl.esc s.data.toList).toArray⟩) ∧ Below w.heap.size w w' := by
  obtain ⟨A, hA⟩ : ∃ A : ByteArray, A = ⟨(Gl.dbl 92 s.data.toList).toArray⟩ := ⟨_, rfl⟩
  have hAl : A.data.toList = Gl.dbl 92 s.data.toList := by rw [hA]
  have hAs : A.size ≤ 1000000000 := by
    have h1 := size_list s
    have h2 : s.data.toList.count 92 ≤ s.data.toList.length := List.count_le_length
    rw [← size_list, hAl, Gl.dbl_length]
    omega
  have k1 := sreplaceall_any s 92 w hG (by omega)
  have k2 := fun w (h : Glob w) => sreplaceall_any A 34 w h hAs
  rw [← hA] at k1
  rw [hAl, Gl.dbl_esc] at k2
  clear hA hAl
  go_enter Tryz.func95, Tryz.ntmps95
  go_wp2_with fail
  refine k1.mono ?_
  rintro e w1 ⟨rfl, hB1⟩
  go_wp2_with fail
  refine (k2 _ (hG.later hB1)).mono ?_
  rintro e w2 ⟨rfl, hB2⟩
  go_wp2_with fail
  go_ret
  exact ⟨rfl, Below.then hB1 hB2⟩
end Go.Proofs.YtlepnafgcmeimaaGreatDoor

/- What is proved: the closure of String, that appends each token, its text escaped where it is a Str or a Quote. -/
namespace Go.Proofs.YtlepnafgcmeimaaGreatDoor
open Go.RowKit Go.Shelf

theorem six_new0 (w : World) (a b c d e f : Value) (t : TypeId) : ∀ j u, [a, b, c, d, e, f][j]? = some u → (w.alloc (.cells #[a, b, c, d, e, f] t)).cell? ((⟨w.heap.size, 0, none⟩ : Addr).add j) = some u := by
  intro j u hj
  match j, hj with
  | 0, hj => simp at hj; subst hj; simp [Addr.add]
  | 1, hj => simp at hj; subst hj; simp [Addr.add]
  | 2, hj => simp at hj; subst hj; simp [Addr.add]
  | 3, hj => simp at hj; subst hj; simp [Addr.add]
  | 4, hj => simp at hj; subst hj; simp [Addr.add]
  | 5, hj => simp at hj; subst hj; simp [Addr.add]
  | j + 6, hj => simp at hj

/-- A token as it stands in a string. -/
def escK (t : K) : K := ⟨t.kind, ⟨(Gl.wr true t).toArray⟩, t.file, t.fr, t.en, t.bl⟩
theorem row_older {B n m : Nat} {e : TypeId} {sz : Nat} {v : Value} {xs : List Value} {w w' : World} (h : w.ownsRow B e sz v n xs) (hb : Below m w w') (hm : w.heap.size ≤ m) : w'.ownsRow B e sz v n xs := by
  refine ⟨h.1, ?_⟩
  rcases h.2 with h | ⟨g, cap, cur, rfl, hg, hgg, rest⟩
  · exact .inl h
  · exact .inr ⟨g, cap, cur, rfl, hg, (hb.block g (Nat.lt_of_lt_of_le (lt_of_heap hgg) hm)).trans hgg, rest⟩

set_option maxRecDepth 100000 in
set_option maxHeartbeats 4000000 in
theorem gstring1_any (B b : Nat) (acc : List K) (t : K) (w : World) (h : RowB B b acc w) (hl : acc.length ≤ 1000000000) (hG : Glob w) (hx : t.text.size ≤ 400000000) :
    Calls Tryz.prog 94 #[kAgg t, .pointer (some ⟨b, 0, none⟩)] w fun e w' => e = .returned (.tuple #[]) ∧ RowB B b (acc ++ [escK t]) w' ∧ Below B w w' := by
  obtain ⟨i0, hi, hz0, hz1, hz2⟩ := info_parts infoTok
  obtain ⟨TX, hTX⟩ : ∃ TX, TX = (escK t).text := ⟨_, rfl⟩
  have hek : escK t = ⟨t.kind, TX, t.file, t.fr, t.en, t.bl⟩ := by rw [hTX]; rfl
  have hq1 : t.kind = 4 ∨ t.kind = 3 → TX = ⟨(Gl.esc t.text.data.toList).toArray⟩ := fun h => by
    rw [hTX]; unfold escK Gl.wr
    rw [if_pos (by rcases h with h | h <;> simp [h])]
  have hq2 : ¬ (t.kind = 4 ∨ t.kind = 3) → TX = t.text := fun h => by
    rw [hTX]; unfold escK Gl.wr
    rw [if_neg (by simp; exact ⟨fun e => h (.inl e), fun e => h (.inr e)⟩)]
  have HTX := Lib.hid hek
  obtain ⟨v, hbk, hrow, hBb, hne⟩ := h
  obtain ⟨kd, tx, fl, fr, en, bl⟩ := t
  dsimp only at hq1 hq2 hx HTX
  unfold kAgg
  dsimp only
  obtain ⟨va, vm, vc, rfl⟩ := row_form hrow
  obtain ⟨n, hn⟩ : ∃ n, n = acc.length := ⟨_, rfl⟩
  obtain ⟨xs, hxs⟩ : ∃ xs, xs = ksCells acc := ⟨_, rfl⟩
  rw [← hn, ← hxs] at hrow
  rw [← hn] at hl
  have HN := Lib.hid hn
  have HXS := Lib.hid hxs
  have hlt := lt_of_heap hbk
  have hnbx : (Value.slice va vm vc).ownBlock ≠ some w.heap.size := fun e => by have := (hrow.lt _ e).2; omega
  have hAB : Below w.heap.size w (w.alloc (.cells #[.int .i64 kd, .string tx, .int .i64 fl, .int .i64 fr, .int .i64 en, .bool bl] 30)) := (Below.refl _ w).alloc (Nat.le_refl _) _
  have k1 := heap_alloc_new w (.cells #[.int .i64 kd, .string tx, .int .i64 fl, .int .i64 fr, .int .i64 en, .bool bl] 30)
  have hGa := hG.later hAB
  have HNE := Lib.hid hne
  have HROW := Lib.hid hrow
  have HBK := Lib.hid hbk
  have HNX := Lib.hid hnbx
  have HAB := Lib.hid hAB
  have HK1 := Lib.hid k1
  have HGA := Lib.hid hGa
  clear hn hxs hG hek hTX hrow hbk hne hnbx hAB k1 hGa
  by_cases hq : kd = 4 ∨ kd = 3
  · have hT := hq1 hq
    have hb0 : (kd == 4) = true ∨ ((kd == 4) = false ∧ (kd == 3) = true) := by
      by_cases h4 : kd = 4
      · left; simpa using h4
      · right; exact ⟨by simpa using h4, by simpa using hq.resolve_left h4⟩
    have HT := Lib.hid hT
    have HQ := Lib.hid hb0
    clear hq1 hq2 hq hT hb0
    rcases HQ.out with z1 | ⟨z1, z2⟩
    · go_enter Tryz.func94, Tryz.ntmps94
      go_wp2_with fail
      generalize w.alloc (.cells #[.int .i64 kd, .string tx, .int .i64 fl, .int .i64 fr, .int .i64 en, .bool bl] 30) = V at HAB HK1 HGA ⊢
      refine (guarded_any tx V HGA.out hx).mono ?_
      rw [← HT.out]
      rintro e V2 ⟨rfl, hB2⟩
      have k2 := (hB2.block _ (lt_of_block HK1.out)).trans HK1.out
      obtain ⟨x0, x1, x2, x3, x4, x5⟩ := box6_cells k2
      have q0 : ∀ i, V2.frozen? ⟨w.heap.size, i, none⟩ = false := fun i => by simp [World.frozen?, k2]
      have hBV := Below.then HAB.out hB2
      have hBU := (hBV.setCell (p := ⟨w.heap.size, 1, none⟩) (Nat.le_refl _) (.string TX))
      have kU : (V2.setCell ⟨w.heap.size, 1, none⟩ (.string TX)).heap[w.heap.size]? = some (.cells #[.int .i64 kd, .string TX, .int .i64 fl, .int .i64 fr, .int .i64 en, .bool bl] 30 (0, 0)) := by
        simp [World.setCell, Array.getElem?_modify, k2]
      have hbU : (V2.setCell ⟨w.heap.size, 1, none⟩ (.string TX)).heap[b]? = some (.cells #[.slice va vm vc] 27 (0, 0)) := (hBU.block b hlt).trans HBK.out
      have hrU : (V2.setCell ⟨w.heap.size, 1, none⟩ (.string TX)).ownsRow B 30 6 (.slice va vm vc) n xs := row_older HROW.out hBU (Nat.le_refl _)
      have c0 : V2.cell? ⟨b, 0, none⟩ = some (.slice va vm vc) := by rw [Lib.cell_of_heap ((hBV.block b hlt).trans HBK.out)]; rfl
      have HBU := Lib.hid (hBU.mono (show B ≤ w.heap.size by omega))
      have HRU := Lib.hid hrU
      have KB := Lib.hid hbU
      have hus : w.heap.size < V2.heap.size := lt_of_block k2
      have hnw := six_new0 (V2.setCell ⟨w.heap.size, 1, none⟩ (.string TX)) (.int .i64 kd) (.string TX) (.int .i64 fl) (.int .i64 fr) (.int .i64 en) (.bool bl) 30
      rw [show (V2.setCell ⟨w.heap.size, 1, none⟩ (.string TX)).heap.size = V2.heap.size by simp [World.setCell]] at hnw
      have HNW := Lib.hid hnw
      clear hB2 k2 hBV kU hBU hbU hrU hnw
      go_wp2_with (at_builtin; refine wpList_append_own _ rfl _ _ 27 rfl B 30 i0 _ 6 56 Tryz.underlying27 hi hz0 hz1 hz2 rfl (by decide) _ _ _ rfl (HRU.out.alloc _) ⟨V2.heap.size, 0, none⟩ 1 1 [.int .i64 kd, .string TX, .int .i64 fl, .int .i64 fr, .int .i64 en, .bool bl] rfl rfl HNW.out (by simp [Value.oneCell']) (by unfold maxLen; omega) (by omega) (by simp; omega) ?_)
      intro v' w1 hown hgrow _
      obtain ⟨ga, gm, gc, rfl⟩ := row_form hown
      have hb1 : w1.heap[b]? = some (.cells #[.slice va vm vc] 27 (0, 0)) := by
        rw [hgrow.block b (by simp; omega) (fun e => HNE.out e.symm), Below.heap_alloc _ _ _ (by have := lt_of_heap KB.out; omega)]
        exact KB.out
      have d0 : w1.cell? ⟨b, 0, none⟩ = some (.slice va vm vc) := by rw [Lib.cell_of_heap hb1]; rfl
      have f0 : w1.frozen? ⟨b, 0, none⟩ = false := Lib.frozen_of_heap hb1 0
      have hB1 : Below B w w1 := (HBU.out.alloc (by have := HBU.out.size; omega) _).grown hgrow (by simp; omega) (fun k hk => (HRU.out.lt k hk).1)
      have hnb : (Value.slice ga gm gc).ownBlock ≠ some b := by
        intro e
        rcases hown.2 with ⟨e', _⟩ | ⟨g, cap, cur, e', _, hgg, _⟩
        · rw [e'] at e; simp [Value.ownBlock] at e
        · rw [e'] at e
          obtain rfl : g = b := by simpa [Value.ownBlock] using e
          rw [hb1] at hgg
          simp at hgg
      have HOWN := Lib.hid hown
      have HB1 := Lib.hid hB1
      have HBK := Lib.hid hb1
      have HNB := Lib.hid hnb
      clear hown hgrow hB1 hb1 hnb
      go_wp2_with fail
      go_end0
      refine ⟨rfl, ⟨.slice ga gm gc, ?_, ?_, hBb, HNB.out⟩, HB1.out.setCell (p := ⟨b, 0, none⟩) hBb _⟩
      · simp [World.setCell, Array.getElem?_modify, HBK.out]
      · have := HOWN.out.kept (grown_set w1 b 0 (.slice ga gm gc)) (.inr HNB.out)
        rw [HN.out, HXS.out] at this
        rw [ksCells_append, List.length_append, HTX.out]
        exact this
    · go_enter Tryz.func94, Tryz.ntmps94
      go_wp2_with fail
      generalize w.alloc (.cells #[.int .i64 kd, .string tx, .int .i64 fl, .int .i64 fr, .int .i64 en, .bool bl] 30) = V at HAB HK1 HGA ⊢
      refine (guarded_any tx V HGA.out hx).mono ?_
      rw [← HT.out]
      rintro e V2 ⟨rfl, hB2⟩
      have k2 := (hB2.block _ (lt_of_block HK1.out)).trans HK1.out
      obtain ⟨x0, x1, x2, x3, x4, x5⟩ := box6_cells k2
      have q0 : ∀ i, V2.frozen? ⟨w.heap.size, i, none⟩ = false := fun i => by simp [World.frozen?, k2]
      have hBV := Below.then HAB.out hB2
      have hBU := (hBV.setCell (p := ⟨w.heap.size, 1, none⟩) (Nat.le_refl _) (.string TX))
      have kU : (V2.setCell ⟨w.heap.size, 1, none⟩ (.string TX)).heap[w.heap.size]? = some (.cells #[.int .i64 kd, .string TX, .int .i64 fl, .int .i64 fr, .int .i64 en, .bool bl] 30 (0, 0)) := by
        simp [World.setCell, Array.getElem?_modify, k2]
      have hbU : (V2.setCell ⟨w.heap.size, 1, none⟩ (.string TX)).heap[b]? = some (.cells #[.slice va vm vc] 27 (0, 0)) := (hBU.block b hlt).trans HBK.out
      have hrU : (V2.setCell ⟨w.heap.size, 1, none⟩ (.string TX)).ownsRow B 30 6 (.slice va vm vc) n xs := row_older HROW.out hBU (Nat.le_refl _)
      have c0 : V2.cell? ⟨b, 0, none⟩ = some (.slice va vm vc) := by rw [Lib.cell_of_heap ((hBV.block b hlt).trans HBK.out)]; rfl
      have HBU := Lib.hid (hBU.mono (show B ≤ w.heap.size by omega))
      have HRU := Lib.hid hrU
      have KB := Lib.hid hbU
      have hus : w.heap.size < V2.heap.size := lt_of_block k2
      have hnw := six_new0 (V2.setCell ⟨w.heap.size, 1, none⟩ (.string TX)) (.int .i64 kd) (.string TX) (.int .i64 fl) (.int .i64 fr) (.int .i64 en) (.bool bl) 30
      rw [show (V2.setCell ⟨w.heap.size, 1, none⟩ (.string TX)).heap.size = V2.heap.size by simp [World.setCell]] at hnw
      have HNW := Lib.hid hnw
      clear hB2 k2 hBV kU hBU hbU hrU hnw
      go_wp2_with (at_builtin; refine wpList_append_own _ rfl _ _ 27 rfl B 30 i0 _ 6 56 Tryz.underlying27 hi hz0 hz1 hz2 rfl (by decide) _ _ _ rfl (HRU.out.alloc _) ⟨V2.heap.size, 0, none⟩ 1 1 [.int .i64 kd, .string TX, .int .i64 fl, .int .i64 fr, .int .i64 en, .bool bl] rfl rfl HNW.out (by simp [Value.oneCell']) (by unfold maxLen; omega) (by omega) (by simp; omega) ?_)
      intro v' w1 hown hgrow _
      obtain ⟨ga, gm, gc, rfl⟩ := row_form hown
      have hb1 : w1.heap[b]? = some (.cells #[.slice va vm vc] 27 (0, 0)) := by
        rw [hgrow.block b (by simp; omega) (fun e => HNE.out e.symm), Below.heap_alloc _ _ _ (by have := lt_of_heap KB.out; omega)]
        exact KB.out
      have d0 : w1.cell? ⟨b, 0, none⟩ = some (.slice va vm vc) := by rw [Lib.cell_of_heap hb1]; rfl
      have f0 : w1.frozen? ⟨b, 0, none⟩ = false := Lib.frozen_of_heap hb1 0
      have hB1 : Below B w w1 := (HBU.out.alloc (by have := HBU.out.size; omega) _).grown hgrow (by simp; omega) (fun k hk => (HRU.out.lt k hk).1)
      have hnb : (Value.slice ga gm gc).ownBlock ≠ some b := by
        intro e
        rcases hown.2 with ⟨e', _⟩ | ⟨g, cap, cur, e', _, hgg, _⟩
        · rw [e'] at e; simp [Value.ownBlock] at e
        · rw [e'] at e
          obtain rfl : g = b := by simpa [Value.ownBlock] using e
          rw [hb1] at hgg
          simp at hgg
      have HOWN := Lib.hid hown
      have HB1 := Lib.hid hB1
      have HBK := Lib.hid hb1
      have HNB := Lib.hid hnb
      clear hown hgrow hB1 hb1 hnb
      go_wp2_with fail
      go_end0
      refine ⟨rfl, ⟨.slice ga gm gc, ?_, ?_, hBb, HNB.out⟩, HB1.out.setCell (p := ⟨b, 0, none⟩) hBb _⟩
      · simp [World.setCell, Array.getElem?_modify, HBK.out]
      · have := HOWN.out.kept (grown_set w1 b 0 (.slice ga gm gc)) (.inr HNB.out)
        rw [HN.out, HXS.out] at this
        rw [ksCells_append, List.length_append, HTX.out]
        exact this
  · have hT := hq2 hq
    have z1 : (kd == 4) = false := by rw [beq_eq_false_iff_ne]; exact fun h => hq (.inl h)
    have z2 : (kd == 3) = false := by rw [beq_eq_false_iff_ne]; exact fun h => hq (.inr h)
    subst hT
    have hbU : (w.alloc (.cells #[.int .i64 kd, .string TX, .int .i64 fl, .int .i64 fr, .int .i64 en, .bool bl] 30)).heap[b]? = some (.cells #[.slice va vm vc] 27 (0, 0)) := (HAB.out.block b hlt).trans HBK.out
    have c0 : w.cell? ⟨b, 0, none⟩ = some (.slice va vm vc) := by rw [Lib.cell_of_heap HBK.out]; rfl
    have HBU := Lib.hid (HAB.out.mono (show B ≤ w.heap.size by omega))
    have HRU := Lib.hid (HROW.out.alloc (.cells #[.int .i64 kd, .string TX, .int .i64 fl, .int .i64 fr, .int .i64 en, .bool bl] 30))
    have KB := Lib.hid hbU
    have HNW := Lib.hid (six_new w (.cells #[.int .i64 kd, .string TX, .int .i64 fl, .int .i64 fr, .int .i64 en, .bool bl] 30) (.int .i64 kd) (.string TX) (.int .i64 fl) (.int .i64 fr) (.int .i64 en) (.bool bl) 30)
    clear hbU hq1 hq2 hq
    go_enter Tryz.func94, Tryz.ntmps94
    go_wp2_with (at_builtin; refine wpList_append_own _ rfl _ _ 27 rfl B 30 i0 _ 6 56 Tryz.underlying27 hi hz0 hz1 hz2 rfl (by decide) _ _ _ rfl (HRU.out.alloc _) ⟨w.heap.size + 1, 0, none⟩ 1 1 [.int .i64 kd, .string TX, .int .i64 fl, .int .i64 fr, .int .i64 en, .bool bl] rfl rfl HNW.out (by simp [Value.oneCell']) (by unfold maxLen; omega) (by omega) (by simp; omega) ?_)
    intro v' w1 hown hgrow _
    obtain ⟨ga, gm, gc, rfl⟩ := row_form hown
    have hb1 : w1.heap[b]? = some (.cells #[.slice va vm vc] 27 (0, 0)) := by
      rw [hgrow.block b (by simp; omega) (fun e => HNE.out e.symm), Below.heap_alloc _ _ _ (by have := lt_of_heap KB.out; omega)]
      exact KB.out
    have d0 : w1.cell? ⟨b, 0, none⟩ = some (.slice va vm vc) := by rw [Lib.cell_of_heap hb1]; rfl
    have f0 : w1.frozen? ⟨b, 0, none⟩ = false := Lib.frozen_of_heap hb1 0
    have hB1 : Below B w w1 := (HBU.out.alloc (by have := HBU.out.size; omega) _).grown hgrow (by simp; omega) (fun k hk => (HRU.out.lt k hk).1)
    have hnb : (Value.slice ga gm gc).ownBlock ≠ some b := by
      intro e
      rcases hown.2 with ⟨e', _⟩ | ⟨g, cap, cur, e', _, hgg, _⟩
      · rw [e'] at e; simp [Value.ownBlock] at e
      · rw [e'] at e
        obtain rfl : g = b := by simpa [Value.ownBlock] using e
        rw [hb1] at hgg
        simp at hgg
    have HOWN := Lib.hid hown
    have HB1 := Lib.hid hB1
    have HBK := Lib.hid hb1
    have HNB := Lib.hid hnb
    clear hown hgrow hB1 hb1 hnb
    go_wp2_with fail
    go_end0
    refine ⟨rfl, ⟨.slice ga gm gc, ?_, ?_, hBb, HNB.out⟩, HB1.out.setCell (p := ⟨b, 0, none⟩) hBb _⟩
    · simp [World.setCell, Array.getElem?_modify, HBK.out]
    · have := HOWN.out.kept (grown_set w1 b 0 (.slice ga gm gc)) (.inr HNB.out)
      rw [HN.out, HXS.out] at this
      rw [ksCells_append, List.length_append, HTX.out]
      exact this
end Go.Proofs.YtlepnafgcmeimaaGreatDoor

/- What is proved: what each does with the closures of Text and of String; what Text and String tell. -/
namespace Go.Proofs.YtlepnafgcmeimaaGreatDoor
open Go.RowKit Go.Shelf

set_option maxRecDepth 100000 in
set_option maxHeartbeats 4000000 in
theorem eachstring_any (b : Nat) (l : List K) (v : Value) (w0 w : World) (hv : Ks w0 v l) (hl : l.length ≤ 1000000000) (hG : Glob w0) (hx : ∀ t ∈ l, t.text.size ≤ 400000000) (hB0 : Below w0.heap.size w0 w) (hr : RowB w0.heap.size b [] w) :
    Calls Tryz.prog 93 #[v, .func (.func 94) #[] #[.pointer (some ⟨b, 0, none⟩)]] w fun e w' => e = .returned (.tuple #[]) ∧ RowB w0.heap.size b (Gl.ln true false false l) w' ∧ Below w0.heap.size w0 w' := by
  obtain ⟨ad, cap, rfl, h1, h2, -⟩ := id hv
  obtain ⟨n, hn⟩ : ∃ n, n = l.length := ⟨_, rfl⟩
  obtain ⟨L, hL⟩ : ∃ L, L = Gl.ln true false false l := ⟨_, rfl⟩
  rw [← hn] at hv h1 hl ⊢
  rw [← hL]
  have HV := Lib.hid hv
  have Hn := Lib.hid hn
  have HL := Lib.hid hL
  have HG := Lib.hid hG
  have HX := Lib.hid hx
  clear hv hn hL h1 h2 hG hx 
  go_enter Tryz.func93, Tryz.ntmps93
  go_wp2_with fail
  go_loopw [4, 5, 10] (fun s4 s5 s10 wr => ∃ (k : Nat) (seen gap : Bool) (acc : List K), s4 = .bool seen ∧ s5 = .bool gap ∧ s10 = .int .i64 k ∧ k ≤ n ∧ acc.length ≤ k ∧ RowB w0.heap.size b acc wr ∧ Below w0.heap.size w0 wr ∧ acc ++ Gl.ln true seen gap (l.drop k) = L) (fun _ _ i _ => n - (intOf i).toNat)
  case atStart => exact ⟨0, false, false, [], rfl, rfl, rfl, Nat.zero_le _, Nat.le_refl _, hr, hB0, by simpa using HL.out.symm⟩
  case round =>
    obtain ⟨k, seen, gap, acc, rfl, rfl, rfl, hk, hal, hrow, hB, hacc⟩ := hrel
    have HAL := Lib.hid hal
    have HROW := Lib.hid hrow
    have HB := Lib.hid hB
    have HACC := Lib.hid hacc
    have hbs := hB.size
    clear hal hrow hB hacc hr hB0
    by_cases hlt : k < n
    · obtain ⟨t, ht⟩ : ∃ t, l[k]? = some t := ⟨_, List.getElem?_eq_getElem (by rw [← Hn.out]; exact hlt)⟩
      obtain ⟨g, o, rfl, d0, d1, d2, d3, d4, d5⟩ := (show ∃ g o, ad = some ⟨g, o, none⟩ ∧ KAt wr g (o + k * 6) t by
        obtain ⟨ad', cap', e, -, -, h3⟩ := HV.out.below HB.out
        injection e with e1 e2 e3
        subst e1
        exact h3 k t ht)
      have y1 : (0 : Int) ≤ k := by omega
      have y2 : (k : Int) < n := by omega
      have hdr : l.drop k = t :: l.drop (k + 1) := by
        obtain ⟨hk', e⟩ := List.getElem?_eq_some_iff.1 ht
        rw [← e]; exact List.drop_eq_getElem_cons hk'
      have hstep := HACC.out
      rw [hdr, Gl.ln] at hstep
      have HT := Lib.hid ht
      clear ht hdr
      by_cases h7 : t.kind = 7
      · have t7 : (t.kind == 7) = true := by simpa using h7
        rw [if_pos h7] at hstep
        have HS := Lib.hid hstep
        clear hstep h7
        go_wp2_with fail
        go_roundw
        case rel => exact ⟨k + 1, seen, true, acc, rfl, rfl, by go_num, by omega, by have := HAL.out; omega, HROW.out.alloc _, HB.out.alloc hbs _, HS.out⟩
        case measure => simp [intOf]; omega
      · have t7 : (t.kind == 7) = false := by simpa using h7
        rw [if_neg h7] at hstep
        have HS := Lib.hid hstep
        have hA := fun nb : Bool => (Below.refl wr.heap.size wr).alloc (Nat.le_refl _) (.cells #[.int .i64 t.kind, .string t.text, .int .i64 t.file, .int .i64 t.fr, .int .i64 t.en, .bool nb] 30)
        clear hstep h7
        have hone : ∀ seen gap, Gl.one true seen gap t = escK ⟨t.kind, t.text, t.file, t.fr, t.en, seen && (gap || t.bl)⟩ := fun seen gap => rfl
        have HO := Lib.hid hone
        clear hone
        have hc : seen = false ∨ (seen = true ∧ gap = true) ∨ (seen = true ∧ gap = false) := by cases seen <;> cases gap <;> simp
        rcases hc with rfl | ⟨rfl, rfl⟩ | ⟨rfl, rfl⟩
        · have HA := Lib.hid (hA false)
          clear hA
          go_wp2_with fail
          refine (gstring1_any w0.heap.size b acc ⟨t.kind, t.text, t.file, t.fr, t.en, false⟩ _ (HROW.out.below HA.out (Nat.le_refl _)) (by have := HAL.out; omega) (HG.out.later (HB.out.trans (HA.out.mono hbs))) (HX.out t (List.mem_of_getElem? HT.out))).mono ?_
          rintro e W2 ⟨rfl, hr2, hB2⟩
          have HR2 := Lib.hid hr2
          have HB2 := Lib.hid ((HB.out.trans (HA.out.mono hbs)).trans hB2)
          clear hr2 hB2
          go_wp2_with fail
          go_roundw
          case rel => exact ⟨k + 1, true, false, _, rfl, rfl, by go_num, by omega, by have := HAL.out; simp; omega, HR2.out, HB2.out, by have := HS.out; rw [HO.out] at this; simpa using this⟩
          case measure => simp [intOf]; omega
        · have HA := Lib.hid (hA true)
          clear hA
          go_wp2_with fail
          refine (gstring1_any w0.heap.size b acc ⟨t.kind, t.text, t.file, t.fr, t.en, true⟩ _ (HROW.out.below HA.out (Nat.le_refl _)) (by have := HAL.out; omega) (HG.out.later (HB.out.trans (HA.out.mono hbs))) (HX.out t (List.mem_of_getElem? HT.out))).mono ?_
          rintro e W2 ⟨rfl, hr2, hB2⟩
          have HR2 := Lib.hid hr2
          have HB2 := Lib.hid ((HB.out.trans (HA.out.mono hbs)).trans hB2)
          clear hr2 hB2
          go_wp2_with fail
          go_roundw
          case rel => exact ⟨k + 1, true, false, _, rfl, rfl, by go_num, by omega, by have := HAL.out; simp; omega, HR2.out, HB2.out, by have := HS.out; rw [HO.out] at this; simpa using this⟩
          case measure => simp [intOf]; omega
        · have HA := Lib.hid (hA t.bl)
          clear hA
          go_wp2_with fail
          refine (gstring1_any w0.heap.size b acc ⟨t.kind, t.text, t.file, t.fr, t.en, t.bl⟩ _ (HROW.out.below HA.out (Nat.le_refl _)) (by have := HAL.out; omega) (HG.out.later (HB.out.trans (HA.out.mono hbs))) (HX.out t (List.mem_of_getElem? HT.out))).mono ?_
          rintro e W2 ⟨rfl, hr2, hB2⟩
          have HR2 := Lib.hid hr2
          have HB2 := Lib.hid ((HB.out.trans (HA.out.mono hbs)).trans hB2)
          clear hr2 hB2
          go_wp2_with fail
          go_roundw
          case rel => exact ⟨k + 1, true, false, _, rfl, rfl, by go_num, by omega, by have := HAL.out; simp; omega, HR2.out, HB2.out, by have := HS.out; rw [HO.out] at this; simpa using this⟩
          case measure => simp [intOf]; omega
    · have y2 : ¬ (k : Int) < n := by omega
      have hfin : acc = L := by
        have := HACC.out
        rw [List.drop_of_length_le (by rw [← Hn.out]; omega)] at this
        simpa [Gl.ln] using this
      rw [hfin] at HROW
      clear hfin
      go_wp2_with fail
      go_end0
      exact ⟨rfl, HROW.out, HB.out⟩

set_option maxRecDepth 100000 in
set_option maxHeartbeats 4000000 in
theorem gstring_any (l : List K) (v : Value) (w : World) (hG : Glob w) (hv : Ks w v l) (hl : l.length ≤ 1000000000) (hx : ∀ t ∈ l, t.text.size ≤ 400000000) (hp : (Gl.txt true false false l).length ≤ 1000000000) :
    Calls Tryz.prog 80 #[v] w fun e w' => e = .returned (strTok (34 :: (Gl.txt true false false l ++ [34]))) ∧ Below w.heap.size w w' := by
  have hmf : ∀ (fn : Fn) (first cap : Array Value) (w : World), (Instr.makeFunc fn first cap).run Tryz.prog w = .ok (.func fn first cap) w := fun _ _ _ _ => rfl
  have hA : Below w.heap.size w (w.alloc (.cells #[.int .i64 0, .string ⟨#[]⟩, .int .i64 0, .int .i64 0, .int .i64 0, .bool false] 30)) := (Below.refl _ w).alloc (Nat.le_refl _) _
  have k1 := eachstring_any (w.alloc (.cells #[.int .i64 0, .string ⟨#[]⟩, .int .i64 0, .int .i64 0, .int .i64 0, .bool false] 30)).heap.size l v (w.alloc (.cells #[.int .i64 0, .string ⟨#[]⟩, .int .i64 0, .int .i64 0, .int .i64 0, .bool false] 30)) ((w.alloc (.cells #[.int .i64 0, .string ⟨#[]⟩, .int .i64 0, .int .i64 0, .int .i64 0, .bool false] 30)).alloc (.cells #[.slice none 0 0] 27)) (hv.below hA) hl (hG.later hA) hx ((Below.refl _ _).alloc (Nat.le_refl _) _) (RowB.new _)
  have hbox := heap_alloc_new w (.cells #[.int .i64 0, .string ⟨#[]⟩, .int .i64 0, .int .i64 0, .int .i64 0, .bool false] 30)
  rw [World.size_alloc] at k1
  have hpr := Gl.prk_ln true l false false
  have hll := Gl.ln_length true l false false
  obtain ⟨L, hL⟩ : ∃ L, L = Gl.ln true false false l := ⟨_, rfl⟩
  rw [← hL] at hpr hll k1
  have hp2 := fun (v : Value) (w : World) (h : Ks w v L) => printk_any v L w h (by omega) (by rw [hpr]; exact hp)
  rw [hpr] at hp2
  obtain ⟨X, hX⟩ : ∃ X, X = Gl.txt true false false l := ⟨_, rfl⟩
  rw [← hX] at hp2 hp ⊢
  have had1 : ∀ W, (Op.stringOp .add ⟨#[34]⟩ ⟨X.toArray⟩).run Tryz.prog W = .ok (.string ⟨(34 :: X).toArray⟩) W := fun W => add_run [34] X (by simp; omega) W
  have had2 : ∀ W, (Op.stringOp .add ⟨(34 :: X).toArray⟩ ⟨#[34]⟩).run Tryz.prog W = .ok (.string ⟨(34 :: (X ++ [34])).toArray⟩) W := fun W => add_run (34 :: X) [34] (by simp; omega) W
  have HP := Lib.hid hp2
  have HK := Lib.hid k1
  have HBX := Lib.hid hbox
  have HA := Lib.hid hA
  obtain ⟨ad, cap, rfl, -⟩ := id hv
  clear hv hl hpr hll hL hp2 hX k1 hbox hA hp hx hG
  go_enter Tryz.func80, Tryz.ntmps80
  go_wp2_with fail
  refine HK.out.mono ?_
  rintro e w1 ⟨rfl, hr, hB⟩
  obtain ⟨rv, hc, hks⟩ := hr.ks
  have hb1 := (hB.block _ (Nat.lt_succ_self w.heap.size)).trans HBX.out
  have hBB := HA.out.trans (hB.mono (Nat.le_succ _))
  have HKS := Lib.hid hks
  obtain ⟨ra, rc, rfl, -⟩ := id hks
  clear hks hr hB
  go_wp2_with fail
  refine (HP.out _ _ HKS.out).mono ?_
  rintro e W1 ⟨rfl, hB2⟩
  have hb2 := (hB2.block _ (lt_of_block hb1)).trans hb1
  have hB3 := Below.then hBB hB2
  have hlt := lt_of_block hb2
  obtain ⟨x0, x1, x2, x3, x4, x5⟩ := box6_cells hb2
  have q0 : ∀ i, W1.frozen? ⟨w.heap.size, i, none⟩ = false := fun i => by simp [World.frozen?, hb2]
  have HB1 := Lib.hid hb2
  have HBB := Lib.hid hB3
  clear hB2 hb1 hb2 hBB hB3 hc
  go_wp2_with fail
  have hset : ((((((W1.setCell ⟨w.heap.size, 0, none⟩ (.int .i64 4)).setCell ⟨w.heap.size, 1, none⟩ (.string ⟨(34 :: (X ++ [34])).toArray⟩)).setCell ⟨w.heap.size, 2, none⟩ (.int .i64 0)).setCell ⟨w.heap.size, 3, none⟩ (.int .i64 0)).setCell ⟨w.heap.size, 4, none⟩ (.int .i64 0)).setCell ⟨w.heap.size, 5, none⟩ (.bool false)).heap[w.heap.size]? = some (.cells #[.int .i64 4, .string ⟨(34 :: (X ++ [34])).toArray⟩, .int .i64 0, .int .i64 0, .int .i64 0, .bool false] 30 (0, 0)) := by
    simp [World.setCell, Array.getElem?_modify, HB1.out]
  obtain ⟨s0, s1, s2, s3, s4, s5⟩ := box6_cells hset
  refine bodyPost_ret (v := strTok (34 :: (X ++ [34]))) (by simp [results, Tryz.results80, go_sem, strTok, s0, s1, s2, s3, s4, s5]) rfl ?_
  exact ⟨rfl, (((((HBB.out.setCell (Nat.le_refl _) _).setCell (Nat.le_refl _) _).setCell (Nat.le_refl _) _).setCell (Nat.le_refl _) _).setCell (Nat.le_refl _) _).setCell (Nat.le_refl _) _⟩
end Go.Proofs.YtlepnafgcmeimaaGreatDoor

/- What is proved: what Paste tells of two tokens. -/
namespace Go.Proofs.YtlepnafgcmeimaaGreatDoor
open Go.RowKit Go.Shelf
open Lx (T)

noncomputable def gpasteBody : Code := Tryz.f107.body.getD .skip
set_option maxRecDepth 100000 in
set_option maxHeartbeats 4000000 in
theorem gpaste_end (w W : World) (B B6 : Nat) (ak af afr aen tk tf te : Int) (at_ ts : ByteArray) (abl tb is : Bool) (res : Value)
    (k0 : W.heap[B]? = some (.cells #[.int .i64 ak, .string at_, .int .i64 af, .int .i64 afr, .int .i64 aen, .bool abl] 30 (0, 0)))
    (k2 : W.heap[B + 1 + 1]? = some (.cells #[.int .i64 0, .string ⟨#[]⟩, .int .i64 0, .int .i64 0, .int .i64 0, .bool false] 30 (0, 0)))
    (k6 : W.heap[B6]? = some (.cells #[.int .i64 tk, .string ts, .int .i64 0, .int .i64 tf, .int .i64 te, .bool tb] 30 (0, 0)))
    (hB : Below w.heap.size w W) (hwB : w.heap.size ≤ B) (hB6 : B + 1 + 1 < B6)
    (hres : res = if is then .tuple #[.agg #[.int .i64 tk, .string ts, .int .i64 af, .int .i64 afr, .int .i64 aen, .bool abl], .int .i64 0] else .tuple #[.agg #[.int .i64 0, .string ⟨#[]⟩, .int .i64 0, .int .i64 0, .int .i64 0, .bool false], .int .i64 70])
    (c0 c1 c3 c5 c8 c9 c10 c11 c12 c13 c14 c15 c16 c17 c18 c19 c20 c21 c22 c23 c24 c25 c26 c27 c28 c29 c30 c31 c32 : Value) :
    Code.wp Tryz.prog (secs 2 gpasteBody) (bodyPost Tryz.prog Tryz.f107 (fun e w' => e = .returned res ∧ Below w.heap.size w w')) ⟨#[c0, c1, .pointer (some ⟨B, 0, none⟩), c3, .pointer (some ⟨B + 1 + 1, 0, none⟩), c5, .pointer (some ⟨B6, 0, none⟩), .bool is, c8, c9, c10, c11, c12, c13, c14, c15, c16, c17, c18, c19, c20, c21, c22, c23, c24, c25, c26, c27, c28, c29, c30, c31, c32], []⟩ W := by
  obtain ⟨x0, x1, x2, x3, x4, x5⟩ := box6_cells k0
  obtain ⟨y0, y1, y2, y3, y4, y5⟩ := box6_cells k6
  obtain ⟨z0, z1, z2, z3, z4, z5⟩ := box6_cells k2
  have hlt0 := lt_of_block k0
  have hlt2 := lt_of_block k2
  have hlt6 := lt_of_block k6
  have q0 : ∀ i, W.frozen? ⟨B + 1 + 1, i, none⟩ = false := fun i => by simp [World.frozen?, k2]
  have q6 : ∀ i, W.frozen? ⟨B6, i, none⟩ = false := fun i => by simp [World.frozen?, k6]
  have K6 := Lib.hid k6
  have K2 := Lib.hid k2
  have HB := Lib.hid hB
  have HRES := Lib.hid hres
  clear k0 k2 k6 hB hres
  refine wp_sec 2 gpasteBody rfl ?_
  conv => arg 2; whnf
  cases is
  · go_wp2_with fail
    have hset := six_set K2.out (.int .i64 0) (.string ⟨#[]⟩) (.int .i64 0) (.int .i64 0) (.int .i64 0) (.bool false)
    obtain ⟨s0, s1, s2, s3, s4, s5⟩ := box6_cells hset
    refine bodyPost_ret (v := .tuple #[.agg #[.int .i64 0, .string ⟨#[]⟩, .int .i64 0, .int .i64 0, .int .i64 0, .bool false], .int .i64 70]) (by simp [results, Tryz.results107, go_sem, s0, s1, s2, s3, s4, s5]) rfl ?_
    exact ⟨by rw [HRES.out]; rfl, six_below HB.out (by omega) _ _ _ _ _ _⟩
  · go_wp2_with fail
    refine wp_sec 3 gpasteBody rfl ?_
    conv => arg 2; whnf
    have hS : W.cell? ⟨B, 2, none⟩ = some (.int .i64 af) ∧ W.cell? ⟨B, 3, none⟩ = some (.int .i64 afr) ∧ W.cell? ⟨B, 4, none⟩ = some (.int .i64 aen) ∧ W.cell? ⟨B, 5, none⟩ = some (.bool abl) := ⟨x2, x3, x4, x5⟩
    have hn1 : ¬ B = B6 := by omega
    have hn2 : ¬ B6 = B := by omega
    go_region_held3 (fun w' => w'.cell? ⟨B, 2, none⟩ = some (.int .i64 af) ∧ w'.cell? ⟨B, 3, none⟩ = some (.int .i64 afr) ∧ w'.cell? ⟨B, 4, none⟩ = some (.int .i64 aen) ∧ w'.cell? ⟨B, 5, none⟩ = some (.bool abl))
      (first
        | exact hS
        | go_keep
        | (refine ⟨?_, ?_, ?_, ?_⟩ <;> go_keep))
      (fail)
    refine wp_sec 4 gpasteBody rfl ?_
    conv => arg 2; whnf
    go_wp2_with fail
    conv => arg 2; whnf
    go_wp2_with fail
    have h4 : ((((W.setCell ⟨B6, 2, none⟩ (.int .i64 af)).setCell ⟨B6, 3, none⟩ (.int .i64 afr)).setCell ⟨B6, 4, none⟩ (.int .i64 aen)).setCell ⟨B6, 5, none⟩ (.bool abl)).heap[B + 1 + 1]? = some (.cells #[.int .i64 0, .string ⟨#[]⟩, .int .i64 0, .int .i64 0, .int .i64 0, .bool false] 30 (0, 0)) := by
      have hn3 : ¬ B6 = B + 1 + 1 := by omega
      simp [World.setCell, Array.getElem?_modify, K2.out, hn3]
    have hB4 : Below w.heap.size w ((((W.setCell ⟨B6, 2, none⟩ (.int .i64 af)).setCell ⟨B6, 3, none⟩ (.int .i64 afr)).setCell ⟨B6, 4, none⟩ (.int .i64 aen)).setCell ⟨B6, 5, none⟩ (.bool abl)) :=
      (((HB.out.setCell (p := ⟨B6, 2, none⟩) (by show _ ≤ B6; omega) _).setCell (p := ⟨B6, 3, none⟩) (by show _ ≤ B6; omega) _).setCell (p := ⟨B6, 4, none⟩) (by show _ ≤ B6; omega) _).setCell (p := ⟨B6, 5, none⟩) (by show _ ≤ B6; omega) _
    have hset := six_set h4 (.int .i64 tk) (.string ts) (.int .i64 af) (.int .i64 afr) (.int .i64 aen) (.bool abl)
    obtain ⟨s0, s1, s2, s3, s4, s5⟩ := box6_cells hset
    refine bodyPost_ret (v := .tuple #[.agg #[.int .i64 tk, .string ts, .int .i64 af, .int .i64 afr, .int .i64 aen, .bool abl], .int .i64 0]) (by simp [results, Tryz.results107, go_sem, s0, s1, s2, s3, s4, s5]) rfl ?_
    exact ⟨by rw [HRES.out]; rfl, (six_below hB4 (by omega) _ _ _ _ _ _).drew⟩

set_option maxRecDepth 100000 in
set_option maxHeartbeats 4000000 in
theorem gpaste_any (a b : K) (w : World) (hG : Glob w) (hl : a.text.size + b.text.size ≤ 1000000000) :
    Calls Tryz.prog 107 #[kAgg a, kAgg b] w fun e w' => e = .returned (pasteV a (oneOf (a.text.data.toList ++ b.text.data.toList))) ∧ Below w.heap.size w w' := by
  obtain ⟨C, hC⟩ : ∃ C : ByteArray, C = ⟨(a.text.data.toList ++ b.text.data.toList).toArray⟩ := ⟨_, rfl⟩
  have hCd : C.data.toList = a.text.data.toList ++ b.text.data.toList := by rw [hC]
  have hCs : C.size ≤ 1000000000 := by
    have := congrArg List.length hCd
    simp only [List.length_append, size_list] at this
    omega
  have had : ∀ W, (Op.stringOp .add a.text b.text).run Tryz.prog W = .ok (.string C) W := fun W => add_ba _ _ _ (by omega) hCd W
  rw [← hCd]
  obtain ⟨o, ho⟩ : ∃ o, o = oneOf C.data.toList := ⟨_, rfl⟩
  have key := fun w' (h : Glob w') => one_any C hCs w' h
  rw [← ho] at key ⊢
  have HKEY := Lib.hid key
  clear hC hCd hCs ho key hl
  obtain ⟨ak, at_, af, afr, aen, abl⟩ := a
  obtain ⟨bk, bt, bf, bfr, ben, bbl⟩ := b
  dsimp only at had ⊢
  unfold kAgg
  have hB0 : Below w.heap.size w (((w.alloc (.cells #[.int .i64 ak, .string at_, .int .i64 af, .int .i64 afr, .int .i64 aen, .bool abl] 30)).alloc (.cells #[.int .i64 bk, .string bt, .int .i64 bf, .int .i64 bfr, .int .i64 ben, .bool bbl] 30)).alloc (.cells #[.int .i64 0, .string ⟨#[]⟩, .int .i64 0, .int .i64 0, .int .i64 0, .bool false] 30)) := (((Below.refl _ w).alloc (Nat.le_refl _) _).alloc (by simp) _).alloc (by simp; omega) _
  have k0 := heap_alloc_new w (.cells #[.int .i64 ak, .string at_, .int .i64 af, .int .i64 afr, .int .i64 aen, .bool abl] 30)
  replace k0 := (Below.heap_alloc _ (.cells #[.int .i64 bk, .string bt, .int .i64 bf, .int .i64 bfr, .int .i64 ben, .bool bbl] 30) _ (lt_of_block k0)).trans k0
  replace k0 := (Below.heap_alloc _ (.cells #[.int .i64 0, .string ⟨#[]⟩, .int .i64 0, .int .i64 0, .int .i64 0, .bool false] 30) _ (lt_of_block k0)).trans k0
  have k2 := heap_alloc_new ((w.alloc (.cells #[.int .i64 ak, .string at_, .int .i64 af, .int .i64 afr, .int .i64 aen, .bool abl] 30)).alloc (.cells #[.int .i64 bk, .string bt, .int .i64 bf, .int .i64 bfr, .int .i64 ben, .bool bbl] 30)) (.cells #[.int .i64 0, .string ⟨#[]⟩, .int .i64 0, .int .i64 0, .int .i64 0, .bool false] 30)
  simp only [World.size_alloc] at k2
  go_enter Tryz.func107, Tryz.ntmps107
  show Code.wp Tryz.prog (secs 0 gpasteBody) _ _ _
  refine wp_sec 0 gpasteBody rfl ?_
  conv => arg 2; whnf
  go_wp2_with fail
  refine wp_sec 1 gpasteBody rfl ?_
  conv => arg 2; whnf
  go_wp2_with fail
  generalize ((w.alloc (.cells #[.int .i64 ak, .string at_, .int .i64 af, .int .i64 afr, .int .i64 aen, .bool abl] 30)).alloc (.cells #[.int .i64 bk, .string bt, .int .i64 bf, .int .i64 bfr, .int .i64 ben, .bool bbl] 30)).alloc (.cells #[.int .i64 0, .string ⟨#[]⟩, .int .i64 0, .int .i64 0, .int .i64 0, .bool false] 30) = W0 at hB0 k0 k2 ⊢
  have HK := HKEY.out W0 (hG.later hB0)
  unfold OnePost at HK
  have HRV := Lib.hid (show pasteV ⟨ak, at_, af, afr, aen, abl⟩ o = if o.isSome then .tuple #[.agg #[.int .i64 (o.getD zeroTok).kind, .string ⟨(o.getD zeroTok).text.toArray⟩, .int .i64 af, .int .i64 afr, .int .i64 aen, .bool abl], .int .i64 0] else .tuple #[.agg #[.int .i64 0, .string ⟨#[]⟩, .int .i64 0, .int .i64 0, .int .i64 0, .bool false], .int .i64 70] by cases o <;> rfl)
  unfold tokAgg at HK
  generalize ((o.getD zeroTok).kind : Int) = tk at HK HRV
  generalize (⟨(o.getD zeroTok).text.toArray⟩ : ByteArray) = ts at HK HRV
  generalize ((o.getD zeroTok).fr : Int) = tf at HK
  generalize ((o.getD zeroTok).to : Int) = te at HK
  generalize (o.getD zeroTok).bl = tb at HK
  generalize o.isSome = is at HK HRV
  refine HK.mono ?_
  rintro e W1 ⟨rfl, hB1⟩
  have hA : Below W1.heap.size W1 (W1.alloc (.cells #[.int .i64 tk, .string ts, .int .i64 0, .int .i64 tf, .int .i64 te, .bool tb] 30)) := (Below.refl _ _).alloc (Nat.le_refl _) _
  have k6 := heap_alloc_new W1 (.cells #[.int .i64 tk, .string ts, .int .i64 0, .int .i64 tf, .int .i64 te, .bool tb] 30)
  replace k0 := (hB1.block _ (lt_of_block k0)).trans k0
  replace k2 := (hB1.block _ (lt_of_block k2)).trans k2
  have hz6 := lt_of_block k2
  replace k0 := (hA.block _ (lt_of_block k0)).trans k0
  replace k2 := (hA.block _ (lt_of_block k2)).trans k2
  have hBf := Below.then (Below.then hB0 hB1) hA
  clear hB0 hB1 hA HK HKEY had
  go_wp2_with fail
  exact gpaste_end w _ w.heap.size W1.heap.size ak af afr aen tk tf te at_ ts abl tb is _ k0 k2 k6 hBf (Nat.le_refl _) hz6 HRV.out _ _ _ _ _ _ _ _ _ _ _ _ _ _ _ _ _ _ _ _ _ _ _ _ _ _ _ _ _
end Go.Proofs.YtlepnafgcmeimaaGreatDoor

/- What is proved: what pasted tells. -/
namespace Go.Proofs.YtlepnafgcmeimaaGreatDoor
open Go.RowKit Go.Shelf
open Ep (HT)

/-- All but one block lies as it lay. -/
def KB (n B : Nat) (W X : World) : Prop := ∀ b, b < n → b ≠ B → X.heap[b]? = W.heap[b]?
theorem KB.refl (n B : Nat) (W : World) : KB n B W W := fun _ _ _ => rfl
theorem KB.drew {n B : Nat} {W X : World} (h : KB n B W X) : KB n B W X.drew := h
theorem KB.below {n B : Nat} {W X Y : World} (h : KB n B W X) (hb : Below X.heap.size X Y) (hn : n ≤ X.heap.size) : KB n B W Y := fun b h1 h2 => (hb.block b (by omega)).trans (h b h1 h2)
theorem KB.eight {n B : Nat} {W X : World} (h : KB n B W X) (a0 a1 a2 a3 a4 a5 a6 a7 : Value) :
    KB n B W (((((((((X.setCell ⟨B, 0, none⟩ a0).setCell ⟨B, 1, none⟩ a1).setCell ⟨B, 2, none⟩ a2).setCell ⟨B, 3, none⟩ a3).setCell ⟨B, 4, none⟩ a4).setCell ⟨B, 5, none⟩ a5).setCell ⟨B, 6, none⟩ a6).setCell ⟨B, 7, none⟩ a7)) :=
  fun b h1 h2 => (set8_only X B a0 a1 a2 a3 a4 a5 a6 a7 b h2).trans (h b h1 h2)
noncomputable def pastedBody : Code := Tryz.f104.body.getD .skip
def PastedPost (w : World) (r : HT) (e : Int) (en : Ending) (w' : World) : Prop := ∃ p, en = .returned (.tuple #[htAgg r p, .int .i64 e]) ∧ HidP w' p r.hd ∧ Below w.heap.size w w'

set_option maxRecDepth 100000 in
set_option maxHeartbeats 4000000 in
theorem pasted_tail4 (w W : World) (B2 B6 : Nat) (pa pb : Option Addr) (ha hb : Nat) (t : K) (e : Int) (_ _ : Value) (cs2 cs3 : Array Value) (c0 c1 c5 c8 c9 c10 c11 c12 c13 c14 c15 c16 c17 c18 c19 c20 c21 c22 c23 c24 c25 c26 c27 c28 c29 c30 c31 c32 c33 c34 : Value)
    (k2 : W.heap[B2]? = some (.cells cs2 92 (0, 0))) (k26 : cs2[6]? = some (.pointer pa)) (k3 : W.heap[B2 + 1]? = some (.cells cs3 92 (0, 0))) (k36 : cs3[6]? = some (.pointer pb))
    (k4 : W.heap[B2 + 2]? = some (.cells #[.int .i64 0, .string ⟨#[]⟩, .int .i64 0, .int .i64 0, .int .i64 0, .bool false, .pointer none, .bool false] 92 (0, 0)))
    (k6 : W.heap[B6]? = some (.cells #[.int .i64 t.kind, .string t.text, .int .i64 t.file, .int .i64 t.fr, .int .i64 t.en, .bool t.bl] 30 (0, 0)))
    (hpa : HidP W pa ha) (hpb : HidP W pb hb) (hB : Below w.heap.size w W) (hn : w.heap.size ≤ B2) :
    Code.wp Tryz.prog (secs 4 pastedBody) (bodyPost Tryz.prog Tryz.f104 (PastedPost w ⟨t, ha &&& hb, false⟩ e)) ⟨#[c0, c1, .pointer (some ⟨B2, 0, none⟩), .pointer (some ⟨B2 + 1, 0, none⟩), .pointer (some ⟨B2 + 2, 0, none⟩), c5, .pointer (some ⟨B6, 0, none⟩), .int .i64 e, c8, c9, c10, c11, c12, c13, c14, c15, c16, c17, c18, c19, c20, c21, c22, c23, c24, c25, c26, c27, c28, c29, c30, c31, c32, c33, c34], []⟩ W := by
  obtain ⟨kd, tx, fl, fr, en, bl⟩ := t
  dsimp only at k6 ⊢
  have hl2 := lt_of_heap k2
  have hl3 := lt_of_heap k3
  have hl4 := lt_of_heap k4
  have hl6 := lt_of_heap k6
  have n6 : B6 ≠ B2 + 2 := fun e => by rw [e, k4] at k6; injection k6 with k6; injection k6 with _ h _; exact absurd h (by decide)
  have HS0 := Lib.hid (show ∀ X, KB W.heap.size (B2 + 2) W X → (X.cell? ⟨B2, 6, none⟩ = some (.pointer pa) ∧ X.cell? ⟨B2 + 1, 6, none⟩ = some (.pointer pb) ∧ X.cell? ⟨B6, 0, none⟩ = some (.int .i64 kd) ∧ X.cell? ⟨B6, 1, none⟩ = some (.string tx) ∧ X.cell? ⟨B6, 2, none⟩ = some (.int .i64 fl) ∧ X.cell? ⟨B6, 3, none⟩ = some (.int .i64 fr) ∧ X.cell? ⟨B6, 4, none⟩ = some (.int .i64 en) ∧ X.cell? ⟨B6, 5, none⟩ = some (.bool bl)) from fun X hX => by
    obtain ⟨x0, x1, x2, x3, x4, x5⟩ := box6_cells k6
    have q := fun (b o : Nat) (h1 : b < W.heap.size) (h2 : b ≠ B2 + 2) => World.cell?_of_block (w := W) (w' := X) (a := ⟨b, o, none⟩) (hX b h1 h2)
    exact ⟨(q B2 6 hl2 (by omega)).trans ((Lib.cell_of_heap k2 6).trans k26), (q (B2 + 1) 6 hl3 (by omega)).trans ((Lib.cell_of_heap k3 6).trans k36), (q B6 0 hl6 n6).trans x0, (q B6 1 hl6 n6).trans x1, (q B6 2 hl6 n6).trans x2, (q B6 3 hl6 n6).trans x3, (q B6 4 hl6 n6).trans x4, (q B6 5 hl6 n6).trans x5⟩)
  obtain ⟨x0, x1, x2, x3, x4, x5⟩ := box6_cells k6
  have y26 : W.cell? ⟨B2, 6, none⟩ = some (.pointer pa) := (Lib.cell_of_heap k2 6).trans k26
  have y36 : W.cell? ⟨B2 + 1, 6, none⟩ = some (.pointer pb) := (Lib.cell_of_heap k3 6).trans k36
  have hW1 := KB.refl W.heap.size (B2 + 2) W
  have K4 := Lib.hid k4
  have HPA := Lib.hid hpa
  have HPB := Lib.hid hpb
  have HB := Lib.hid hB
  clear k2 k26 k3 k36 k4 k6 hpa hpb hB
  refine wp_sec 4 pastedBody rfl ?_
  conv => arg 2; whnf
  go_region_held3 (fun X => X.cell? ⟨B2, 6, none⟩ = some (.pointer pa) ∧ X.cell? ⟨B2 + 1, 6, none⟩ = some (.pointer pb) ∧ X.cell? ⟨B6, 0, none⟩ = some (.int .i64 kd) ∧ X.cell? ⟨B6, 1, none⟩ = some (.string tx) ∧ X.cell? ⟨B6, 2, none⟩ = some (.int .i64 fl) ∧ X.cell? ⟨B6, 3, none⟩ = some (.int .i64 fr) ∧ X.cell? ⟨B6, 4, none⟩ = some (.int .i64 en) ∧ X.cell? ⟨B6, 5, none⟩ = some (.bool bl))
    ((refine HS0.out _ ?_
      first
       | with_reducible exact hW1
       | with_reducible exact hWc
       | with_reducible exact hW1.drew
       | with_reducible exact KB.eight hWc _ _ _ _ _ _ _ _
       | exact KB.eight hWc _ _ _ _ _ _ _ _))
    ((go_at_call 61; go_split_ands; refine (eboth_any pa pb ha hb W.drew (show HidP W.drew pa ha from HPA.out) (show HidP W.drew pb hb from HPB.out)).mono ?_; rintro e1 wc ⟨r, rfl, hr, -, hBc⟩; have hWc : KB W.heap.size (B2 + 2) W wc := hW1.drew.below hBc (Nat.le_refl _); have hK4 := (hBc.block _ hl4).trans K4.out; obtain ⟨v0, v1, v2, v3, v4, v5, v6, v7, vf⟩ := box8_cells hK4; have HK4 := Lib.hid hK4; have HR := Lib.hid hr; have HBC := Lib.hid hBc; clear hK4 hr hBc))
  all_goals
    have hset := set8_at HK4.out (.int .i64 kd) (.string tx) (.int .i64 fl) (.int .i64 fr) (.int .i64 en) (.bool bl) (.pointer r) (.bool false)
    have hR5 := HR.out.keep ((set8_only wc (B2 + 2) (.int .i64 kd) (.string tx) (.int .i64 fl) (.int .i64 fr) (.int .i64 en) (.bool bl) (.pointer r) (.bool false)).kept HK4.out (by decide))
    have hB5 := set8_below (n := w.heap.size) (B := B2 + 2) ((show Below w.heap.size w W.drew from HB.out.drew).trans (HBC.out.mono (show w.heap.size ≤ W.drew.heap.size from HB.out.size))) (by omega) (.int .i64 kd) (.string tx) (.int .i64 fl) (.int .i64 fr) (.int .i64 en) (.bool bl) (.pointer r) (.bool false)
    show Code.wp Tryz.prog (secs 5 pastedBody) _ _ (set8 wc (B2 + 2) (.int .i64 kd) (.string tx) (.int .i64 fl) (.int .i64 fr) (.int .i64 en) (.bool bl) (.pointer r) (.bool false))
    generalize set8 wc (B2 + 2) (.int .i64 kd) (.string tx) (.int .i64 fl) (.int .i64 fr) (.int .i64 en) (.bool bl) (.pointer r) (.bool false) = W5 at hset hR5 hB5 ⊢
    obtain ⟨s0, s1, s2, s3, s4, s5, s6, s7, -⟩ := box8_cells hset
    conv => arg 2; whnf
    have H5 := Lib.hid hR5
    have HB5 := Lib.hid hB5
    clear hset hR5 hB5 v0 v1 v2 v3 v4 v5 v6 v7 vf
    go_wp2_with fail
    refine bodyPost_ret (v := .tuple #[.agg #[.int .i64 kd, .string tx, .int .i64 fl, .int .i64 fr, .int .i64 en, .bool bl, .pointer r, .bool false], .int .i64 e]) (by simp [results, Tryz.results104, go_sem, s0, s1, s2, s3, s4, s5, s6, s7]) rfl ?_
    exact ⟨r, rfl, H5.out, HB5.out⟩

set_option maxRecDepth 100000 in
set_option maxHeartbeats 4000000 in
theorem epasted_any (a b : HT) (pa pb : Option Addr) (w : World) (hG : Glob w) (hpa : HidP w pa a.hd) (hpb : HidP w pb b.hd) (r : HT) (e : Int) (h : Ep.pasted a b = some (r, e)) :
    Calls Tryz.prog 104 #[htAgg a pa, htAgg b pb] w (PastedPost w r e) := by
  have hA1 : Below w.heap.size w (w.alloc (.cells #[.int .i64 a.t.kind, .string a.t.text, .int .i64 a.t.file, .int .i64 a.t.fr, .int .i64 a.t.en, .bool a.t.bl, .pointer pa, .bool a.mark] 92)) := (Below.refl _ _).alloc (Nat.le_refl _) _
  have k2 := heap_alloc_new w (.cells #[.int .i64 a.t.kind, .string a.t.text, .int .i64 a.t.file, .int .i64 a.t.fr, .int .i64 a.t.en, .bool a.t.bl, .pointer pa, .bool a.mark] 92)
  have hz1 : (w.alloc (.cells #[.int .i64 a.t.kind, .string a.t.text, .int .i64 a.t.file, .int .i64 a.t.fr, .int .i64 a.t.en, .bool a.t.bl, .pointer pa, .bool a.mark] 92)).heap.size = w.heap.size + 1 := by simp
  generalize hw1 : (w.alloc (.cells #[.int .i64 a.t.kind, .string a.t.text, .int .i64 a.t.file, .int .i64 a.t.fr, .int .i64 a.t.en, .bool a.t.bl, .pointer pa, .bool a.mark] 92)) = W1 at hA1 k2 hz1
  have hA2 : Below W1.heap.size W1 (W1.alloc (.cells #[.int .i64 b.t.kind, .string b.t.text, .int .i64 b.t.file, .int .i64 b.t.fr, .int .i64 b.t.en, .bool b.t.bl, .pointer pb, .bool b.mark] 92)) := (Below.refl _ _).alloc (Nat.le_refl _) _
  have k3 := heap_alloc_new W1 (.cells #[.int .i64 b.t.kind, .string b.t.text, .int .i64 b.t.file, .int .i64 b.t.fr, .int .i64 b.t.en, .bool b.t.bl, .pointer pb, .bool b.mark] 92)
  have hz2 : (W1.alloc (.cells #[.int .i64 b.t.kind, .string b.t.text, .int .i64 b.t.file, .int .i64 b.t.fr, .int .i64 b.t.en, .bool b.t.bl, .pointer pb, .bool b.mark] 92)).heap.size = w.heap.size + 2 := by simp; omega
  replace k2 := (hA2.block _ (lt_of_heap k2)).trans k2
  rw [hz1] at k3
  generalize hw2 : (W1.alloc (.cells #[.int .i64 b.t.kind, .string b.t.text, .int .i64 b.t.file, .int .i64 b.t.fr, .int .i64 b.t.en, .bool b.t.bl, .pointer pb, .bool b.mark] 92)) = W2 at hA2 k2 k3 hz2
  have hA3 : Below W2.heap.size W2 (W2.alloc (.cells #[.int .i64 0, .string ⟨#[]⟩, .int .i64 0, .int .i64 0, .int .i64 0, .bool false, .pointer none, .bool false] 92)) := (Below.refl _ _).alloc (Nat.le_refl _) _
  have k4 := heap_alloc_new W2 (.cells #[.int .i64 0, .string ⟨#[]⟩, .int .i64 0, .int .i64 0, .int .i64 0, .bool false, .pointer none, .bool false] 92)
  replace k2 := (hA3.block _ (lt_of_heap k2)).trans k2
  replace k3 := (hA3.block _ (lt_of_heap k3)).trans k3
  rw [hz2] at k4
  have hB3 : Below w.heap.size w (W2.alloc (.cells #[.int .i64 0, .string ⟨#[]⟩, .int .i64 0, .int .i64 0, .int .i64 0, .bool false, .pointer none, .bool false] 92)) := Below.then (Below.then hA1 hA2) hA3
  have hz3 : (W2.alloc (.cells #[.int .i64 0, .string ⟨#[]⟩, .int .i64 0, .int .i64 0, .int .i64 0, .bool false, .pointer none, .bool false] 92)).heap.size = w.heap.size + 3 := by simp; omega
  generalize hw3 : (W2.alloc (.cells #[.int .i64 0, .string ⟨#[]⟩, .int .i64 0, .int .i64 0, .int .i64 0, .bool false, .pointer none, .bool false] 92)) = W3 at hA3 k2 k3 k4 hB3 hz3
  subst hw1 hw2
  have HW3 := Lib.hid hw3
  have HK2 := Lib.hid k2
  have HK3 := Lib.hid k3
  have HK4 := Lib.hid k4
  have HB3 := Lib.hid hB3
  have HZ3 := Lib.hid hz3
  have HPA := Lib.hid hpa
  have HPB := Lib.hid hpb
  have HH := Lib.hid h
  clear hA1 hA2 hA3 hz1 hz2 hz3 k2 k3 k4 hB3 hpa hpb h hw3
  unfold htAgg
  go_enter Tryz.func104, Tryz.ntmps104
  show Code.wp Tryz.prog (secs 0 pastedBody) _ _ _
  refine wp_sec 0 pastedBody rfl ?_
  conv => arg 2; whnf
  go_wp2_with fail
  simp only [Nat.add_assoc, Nat.reduceAdd]
  rw [HW3.out]
  clear HW3
  have hlt2 := lt_of_heap HK2.out
  have hlt3 := lt_of_heap HK3.out
  obtain ⟨x0, x1, x2, x3, x4, x5, x6, x7, xf⟩ := box8_cells HK2.out
  obtain ⟨y0, y1, y2, y3, y4, y5, y6, y7, yf⟩ := box8_cells HK3.out
  obtain ⟨v0, v1, v2, v3, v4, v5, v6, v7, vf⟩ := box8_cells HK4.out
  refine wp_sec 1 pastedBody rfl ?_
  conv => arg 2; whnf
  cases hbm : b.mark with
  | true =>
    rw [hbm] at y7
    have hh := HH.out
    rw [Ep.pasted, if_pos hbm] at hh
    injection hh with hh
    injection hh with hr he
    have HR := Lib.hid hr
    have HE := Lib.hid he
    clear hr he
    obtain ⟨⟨kd, tx, f, fr, en, bl⟩, hd, mk⟩ := a
    dsimp only at x0 x1 x2 x3 x4 x5 x7
    go_wp2_with fail
    have K5 := set8_at HK4.out (.int .i64 kd) (.string tx) (.int .i64 f) (.int .i64 fr) (.int .i64 en) (.bool bl) (.pointer pa) (.bool mk)
    have P5 := (HPA.out.keep (Kept.of_below (HB3.out.mono (Nat.le_refl _)) _)).keep ((set8_only W3 (w.heap.size + 2) (.int .i64 kd) (.string tx) (.int .i64 f) (.int .i64 fr) (.int .i64 en) (.bool bl) (.pointer pa) (.bool mk)).kept HK4.out (by decide))
    have B5 := set8_below HB3.out (B := w.heap.size + 2) (by omega) (.int .i64 kd) (.string tx) (.int .i64 f) (.int .i64 fr) (.int .i64 en) (.bool bl) (.pointer pa) (.bool mk)
    obtain ⟨s0, s1, s2, s3, s4, s5, s6, s7, -⟩ := box8_cells K5
    show bodyPost _ _ _ _ _ (set8 W3 (w.heap.size + 2) (.int .i64 kd) (.string tx) (.int .i64 f) (.int .i64 fr) (.int .i64 en) (.bool bl) (.pointer pa) (.bool mk))
    generalize set8 W3 (w.heap.size + 2) (.int .i64 kd) (.string tx) (.int .i64 f) (.int .i64 fr) (.int .i64 en) (.bool bl) (.pointer pa) (.bool mk) = W5 at P5 B5 s0 s1 s2 s3 s4 s5 s6 s7 ⊢
    cases HR.out
    cases HE.out
    exact bodyPost_ret (v := .tuple #[.agg #[.int .i64 kd, .string tx, .int .i64 f, .int .i64 fr, .int .i64 en, .bool bl, .pointer pa, .bool mk], .int .i64 0]) (by simp [results, Tryz.results104, go_sem, s0, s1, s2, s3, s4, s5, s6, s7]) rfl ⟨pa, rfl, P5, B5⟩
  | false =>
    rw [hbm] at y7
    go_wp2_with fail
    refine wp_sec 2 pastedBody rfl ?_
    conv => arg 2; whnf
    cases ham : a.mark with
    | true =>
      rw [ham] at x7
      have hh := HH.out
      rw [Ep.pasted, if_neg (by simp [hbm]), if_pos ham] at hh
      injection hh with hh
      injection hh with hr he
      have HR := Lib.hid hr
      have HE := Lib.hid he
      clear hr he
      obtain ⟨⟨kd, tx, f, fr, en, bl⟩, hd, mk⟩ := b
      dsimp only at y0 y1 y2 y3 y4 y5 y7 hbm HK3
      subst hbm
      go_wp2_with fail
      have hk4 : (W3.setCell ⟨w.heap.size + 1, 5, none⟩ (.bool a.t.bl)).heap[w.heap.size + 2]? = _ := (heap_setCell_other _ _ _ _ (show w.heap.size + 2 ≠ w.heap.size + 1 by omega)).trans HK4.out
      have K5 := set8_at hk4 (.int .i64 kd) (.string tx) (.int .i64 f) (.int .i64 fr) (.int .i64 en) (.bool a.t.bl) (.pointer pb) (.bool false)
      have P4 : HidP (W3.setCell ⟨w.heap.size + 1, 5, none⟩ (.bool a.t.bl)) pb hd := (HPB.out.keep (Kept.of_below (HB3.out.mono (Nat.le_refl _)) _)).keep (Kept.set HK3.out (by decide))
      have P5 := P4.keep ((set8_only (W3.setCell ⟨w.heap.size + 1, 5, none⟩ (.bool a.t.bl)) (w.heap.size + 2) (.int .i64 kd) (.string tx) (.int .i64 f) (.int .i64 fr) (.int .i64 en) (.bool a.t.bl) (.pointer pb) (.bool false)).kept hk4 (by decide))
      have B5 := set8_below (B := w.heap.size + 2) (show Below w.heap.size w (W3.setCell ⟨w.heap.size + 1, 5, none⟩ (.bool a.t.bl)) from HB3.out.setCell (show w.heap.size ≤ w.heap.size + 1 by omega) _) (by omega) (.int .i64 kd) (.string tx) (.int .i64 f) (.int .i64 fr) (.int .i64 en) (.bool a.t.bl) (.pointer pb) (.bool false)
      obtain ⟨s0, s1, s2, s3, s4, s5, s6, s7, -⟩ := box8_cells K5
      show bodyPost _ _ _ _ _ (set8 (W3.setCell ⟨w.heap.size + 1, 5, none⟩ (.bool a.t.bl)) (w.heap.size + 2) (.int .i64 kd) (.string tx) (.int .i64 f) (.int .i64 fr) (.int .i64 en) (.bool a.t.bl) (.pointer pb) (.bool false))
      generalize set8 (W3.setCell ⟨w.heap.size + 1, 5, none⟩ (.bool a.t.bl)) (w.heap.size + 2) (.int .i64 kd) (.string tx) (.int .i64 f) (.int .i64 fr) (.int .i64 en) (.bool a.t.bl) (.pointer pb) (.bool false) = W5 at P5 B5 s0 s1 s2 s3 s4 s5 s6 s7 ⊢
      cases HR.out
      cases HE.out
      exact bodyPost_ret (v := .tuple #[.agg #[.int .i64 kd, .string tx, .int .i64 f, .int .i64 fr, .int .i64 en, .bool a.t.bl, .pointer pb, .bool false], .int .i64 0]) (by simp [results, Tryz.results104, go_sem, s0, s1, s2, s3, s4, s5, s6, s7]) rfl ⟨pb, rfl, P5, B5⟩
    | false =>
      rw [ham] at x7
      go_wp2_with fail
      refine wp_sec 3 pastedBody rfl ?_
      conv => arg 2; whnf
      have hh := HH.out
      rw [Ep.pasted, if_neg (by simp [hbm]), if_neg (by simp [ham])] at hh
      have hsz : ¬ 1000000 < a.t.text.size + b.t.text.size := fun hk => by rw [if_pos hk] at hh; cases hh
      rw [if_neg hsz] at hh
      have HH2 := Lib.hid hh
      have HG := Lib.hid (hG.later HB3.out)
      have HSZ := Lib.hid (show a.t.text.size + b.t.text.size ≤ 1000000000 by omega)
      clear hh hsz
      go_wp2_with fail
      refine (gpaste_any a.t b.t W3 HG.out HSZ.out).mono ?_
      rintro e2 w4 ⟨rfl, hb4⟩
      have HB4 := Lib.hid hb4
      have k2 := (HB4.out.block _ hlt2).trans HK2.out
      have k3 := (HB4.out.block _ hlt3).trans HK3.out
      have k4 := (HB4.out.block _ (lt_of_heap HK4.out)).trans HK4.out
      have pa4 := (HPA.out.keep (Kept.of_below (HB3.out.mono (Nat.le_refl _)) _)).keep (Kept.of_below HB4.out _)
      have pb4 := (HPB.out.keep (Kept.of_below (HB3.out.mono (Nat.le_refl _)) _)).keep (Kept.of_below HB4.out _)
      have B4 := Below.then HB3.out HB4.out
      clear x0 x1 x2 x3 x4 x5 x6 x7 xf y0 y1 y2 y3 y4 y5 y6 y7 yf v0 v1 v2 v3 v4 v5 v6 v7 vf hb4 hlt2 hlt3
      have H2 := HH2.out
      cases hone : oneOf (a.t.text.data.toList ++ b.t.text.data.toList) with
      | none =>
        rw [hone] at H2
        dsimp only at H2
        injection H2 with H2
        injection H2 with hr he
        unfold pasteV
        have K2 := Lib.hid k2
        have K3 := Lib.hid k3
        have K4 := Lib.hid k4
        have PA4 := Lib.hid pa4
        have PB4 := Lib.hid pb4
        have BB := Lib.hid B4
        have HR := Lib.hid hr
        have HE := Lib.hid he
        clear k2 k3 k4 pa4 pb4 B4 hr he
        go_wp2_with fail
        have hal : Below w4.heap.size w4 (w4.alloc (.cells #[.int .i64 ((⟨0, ⟨#[]⟩, 0, 0, 0, false⟩ : K)).kind, .string ((⟨0, ⟨#[]⟩, 0, 0, 0, false⟩ : K)).text, .int .i64 ((⟨0, ⟨#[]⟩, 0, 0, 0, false⟩ : K)).file, .int .i64 ((⟨0, ⟨#[]⟩, 0, 0, 0, false⟩ : K)).fr, .int .i64 ((⟨0, ⟨#[]⟩, 0, 0, 0, false⟩ : K)).en, .bool ((⟨0, ⟨#[]⟩, 0, 0, 0, false⟩ : K)).bl] 30)) := (Below.refl _ _).alloc (Nat.le_refl _) _
        have hnew := heap_alloc_new w4 (.cells #[.int .i64 ((⟨0, ⟨#[]⟩, 0, 0, 0, false⟩ : K)).kind, .string ((⟨0, ⟨#[]⟩, 0, 0, 0, false⟩ : K)).text, .int .i64 ((⟨0, ⟨#[]⟩, 0, 0, 0, false⟩ : K)).file, .int .i64 ((⟨0, ⟨#[]⟩, 0, 0, 0, false⟩ : K)).fr, .int .i64 ((⟨0, ⟨#[]⟩, 0, 0, 0, false⟩ : K)).en, .bool ((⟨0, ⟨#[]⟩, 0, 0, 0, false⟩ : K)).bl] 30)
        cases HR.out
        cases HE.out
        exact pasted_tail4 w _ w.heap.size w4.heap.size pa pb a.hd b.hd (⟨0, ⟨#[]⟩, 0, 0, 0, false⟩ : K) 70 undef undef _ _ _ _ _ _ _ _ _ _ _ _ _ _ _ _ _ _ _ _ _ _ _ _ _ _ _ _ _ _ _ _ ((hal.block _ (lt_of_heap K2.out)).trans K2.out) rfl ((hal.block _ (lt_of_heap K3.out)).trans K3.out) rfl ((hal.block _ (lt_of_heap K4.out)).trans K4.out) hnew (PA4.out.keep (Kept.of_below hal _)) (PB4.out.keep (Kept.of_below hal _)) ((Below.then BB.out hal).mono (Nat.le_refl _)) (Nat.le_refl _)
      | some o =>
        rw [hone] at H2
        dsimp only at H2
        injection H2 with H2
        injection H2 with hr he
        unfold pasteV
        have K2 := Lib.hid k2
        have K3 := Lib.hid k3
        have K4 := Lib.hid k4
        have PA4 := Lib.hid pa4
        have PB4 := Lib.hid pb4
        have BB := Lib.hid B4
        have HR := Lib.hid hr
        have HE := Lib.hid he
        clear k2 k3 k4 pa4 pb4 B4 hr he
        go_wp2_with fail
        have hal : Below w4.heap.size w4 (w4.alloc (.cells #[.int .i64 ((⟨o.kind, ⟨o.text.toArray⟩, a.t.file, a.t.fr, a.t.en, a.t.bl⟩ : K)).kind, .string ((⟨o.kind, ⟨o.text.toArray⟩, a.t.file, a.t.fr, a.t.en, a.t.bl⟩ : K)).text, .int .i64 ((⟨o.kind, ⟨o.text.toArray⟩, a.t.file, a.t.fr, a.t.en, a.t.bl⟩ : K)).file, .int .i64 ((⟨o.kind, ⟨o.text.toArray⟩, a.t.file, a.t.fr, a.t.en, a.t.bl⟩ : K)).fr, .int .i64 ((⟨o.kind, ⟨o.text.toArray⟩, a.t.file, a.t.fr, a.t.en, a.t.bl⟩ : K)).en, .bool ((⟨o.kind, ⟨o.text.toArray⟩, a.t.file, a.t.fr, a.t.en, a.t.bl⟩ : K)).bl] 30)) := (Below.refl _ _).alloc (Nat.le_refl _) _
        have hnew := heap_alloc_new w4 (.cells #[.int .i64 ((⟨o.kind, ⟨o.text.toArray⟩, a.t.file, a.t.fr, a.t.en, a.t.bl⟩ : K)).kind, .string ((⟨o.kind, ⟨o.text.toArray⟩, a.t.file, a.t.fr, a.t.en, a.t.bl⟩ : K)).text, .int .i64 ((⟨o.kind, ⟨o.text.toArray⟩, a.t.file, a.t.fr, a.t.en, a.t.bl⟩ : K)).file, .int .i64 ((⟨o.kind, ⟨o.text.toArray⟩, a.t.file, a.t.fr, a.t.en, a.t.bl⟩ : K)).fr, .int .i64 ((⟨o.kind, ⟨o.text.toArray⟩, a.t.file, a.t.fr, a.t.en, a.t.bl⟩ : K)).en, .bool ((⟨o.kind, ⟨o.text.toArray⟩, a.t.file, a.t.fr, a.t.en, a.t.bl⟩ : K)).bl] 30)
        cases HR.out
        cases HE.out
        exact pasted_tail4 w _ w.heap.size w4.heap.size pa pb a.hd b.hd (⟨o.kind, ⟨o.text.toArray⟩, a.t.file, a.t.fr, a.t.en, a.t.bl⟩ : K) 0 undef undef _ _ _ _ _ _ _ _ _ _ _ _ _ _ _ _ _ _ _ _ _ _ _ _ _ _ _ _ _ _ _ _ ((hal.block _ (lt_of_heap K2.out)).trans K2.out) rfl ((hal.block _ (lt_of_heap K3.out)).trans K3.out) rfl ((hal.block _ (lt_of_heap K4.out)).trans K4.out) hnew (PA4.out.keep (Kept.of_below hal _)) (PB4.out.keep (Kept.of_below hal _)) ((Below.then BB.out hal).mono (Nat.le_refl _)) (Nat.le_refl _)
end Go.Proofs.YtlepnafgcmeimaaGreatDoor

/- What is proved: what a filling is in memory, its last token set, one more behind. -/
namespace Go.Proofs.YtlepnafgcmeimaaGreatDoor
open Go.RowKit Go.Shelf
open Ep (HT)

theorem HCs.unsnoc {W : World} : ∀ {l : List HT} {x : HT} {cs : List Value}, HCs W (l ++ [x]) cs → ∃ c p, cs = c ++ htCells x p ∧ HCs W l c ∧ HidP W p x.hd
  | [], x, cs, ⟨p, r, e, hp, hr⟩ => by
    have hr : r = [] := hr
    subst hr
    exact ⟨[], p, by rw [e, List.append_nil, List.nil_append], rfl, hp⟩
  | y :: l, x, cs, ⟨p, r, e, hp, hr⟩ => by
    obtain ⟨c, q, e2, h1, h2⟩ := HCs.unsnoc hr
    exact ⟨htCells y p ++ c, q, by rw [e, e2, List.append_assoc], ⟨p, c, rfl, hp, h1⟩, h2⟩
def put8 (W : World) (g o : Nat) (a0 a1 a2 a3 a4 a5 a6 a7 : Value) : World :=
  ((((((((W.setCell ⟨g, o, none⟩ a0).setCell ⟨g, o + 1, none⟩ a1).setCell ⟨g, o + 2, none⟩ a2).setCell ⟨g, o + 3, none⟩ a3).setCell ⟨g, o + 4, none⟩ a4).setCell ⟨g, o + 5, none⟩ a5).setCell ⟨g, o + 6, none⟩ a6).setCell ⟨g, o + 7, none⟩ a7)
theorem put8_only (W : World) (g o : Nat) (a0 a1 a2 a3 a4 a5 a6 a7 : Value) : Only1 g W (put8 W g o a0 a1 a2 a3 a4 a5 a6 a7) := fun k hk => by
  unfold put8
  rw [heap_setCell_other _ _ _ _ hk, heap_setCell_other _ _ _ _ hk, heap_setCell_other _ _ _ _ hk, heap_setCell_other _ _ _ _ hk, heap_setCell_other _ _ _ _ hk, heap_setCell_other _ _ _ _ hk, heap_setCell_other _ _ _ _ hk, heap_setCell_other _ _ _ _ hk]
theorem put8_below {n g o : Nat} {w W : World} (hB : Below n w W) (hn : n ≤ g) (a0 a1 a2 a3 a4 a5 a6 a7 : Value) : Below n w (put8 W g o a0 a1 a2 a3 a4 a5 a6 a7) :=
  (((((((hB.setCell hn _).setCell hn _).setCell hn _).setCell hn _).setCell hn _).setCell hn _).setCell hn _).setCell hn _
theorem eight_list (pre : List Value) (x0 x1 x2 x3 x4 x5 x6 x7 a0 a1 a2 a3 a4 a5 a6 a7 : Value) :
    ((((((((pre ++ [x0, x1, x2, x3, x4, x5, x6, x7]).set pre.length a0).set (pre.length + 1) a1).set (pre.length + 2) a2).set (pre.length + 3) a3).set (pre.length + 4) a4).set (pre.length + 5) a5).set (pre.length + 6) a6).set (pre.length + 7) a7 = pre ++ [a0, a1, a2, a3, a4, a5, a6, a7] := by
  simp
/-- The last token of a row is set. -/
theorem row_put8 {W : World} {n g L cap : Nat} {cs : List Value} {x : HT} {p : Option Addr} (h : W.ownsRow n 92 8 (.slice (some ⟨g, 0, none⟩) (L + 1) cap) (L + 1) (cs ++ htCells x p)) (hcs : cs.length = L * 8) (y : HT) (q : Option Addr) :
    (put8 W g (L * 8) (.int .i64 y.t.kind) (.string y.t.text) (.int .i64 y.t.file) (.int .i64 y.t.fr) (.int .i64 y.t.en) (.bool y.t.bl) (.pointer q) (.bool y.mark)).ownsRow n 92 8 (.slice (some ⟨g, 0, none⟩) (L + 1) cap) (L + 1) (cs ++ htCells y q) := by
  have h8 := ((((((((h.stored (L * 8) (.int .i64 y.t.kind)).1.stored (L * 8 + 1) (.string y.t.text)).1.stored (L * 8 + 2) (.int .i64 y.t.file)).1.stored (L * 8 + 3) (.int .i64 y.t.fr)).1.stored (L * 8 + 4) (.int .i64 y.t.en)).1.stored (L * 8 + 5) (.bool y.t.bl)).1.stored (L * 8 + 6) (.pointer q)).1.stored (L * 8 + 7) (.bool y.mark)).1
  rw [← hcs] at h8 ⊢
  exact (eight_list cs (.int .i64 x.t.kind) (.string x.t.text) (.int .i64 x.t.file) (.int .i64 x.t.fr) (.int .i64 x.t.en) (.bool x.t.bl) (.pointer p) (.bool x.mark) (.int .i64 y.t.kind) (.string y.t.text) (.int .i64 y.t.file) (.int .i64 y.t.fr) (.int .i64 y.t.en) (.bool y.t.bl) (.pointer q) (.bool y.mark)) ▸ h8
theorem HRow.last {W : World} {n : Nat} {v : Value} {init : List HT} {x : HT} (h : HRow W n v (init ++ [x])) : ∃ g cap p cs cur, v = .slice (some ⟨g, 0, none⟩) (init.length + 1) cap ∧ n ≤ g ∧ g < W.heap.size ∧ init.length + 1 ≤ cap ∧ cap ≤ maxLen ∧ HidP W p x.hd ∧
    W.ownsRow n 92 8 v (init.length + 1) (cs ++ htCells x p) ∧ HCs W init cs ∧ W.heap[g]? = some (.cells cur 92 (0, 0)) ∧ (∀ j, W.frozen? ⟨g, j, none⟩ = false) ∧ ∀ (j : Nat) (u : Value), (htCells x p)[j]? = some u → W.cell? ⟨g, init.length * 8 + j, none⟩ = some u := by
  obtain ⟨cs0, hrow, hcs⟩ := h
  obtain ⟨cs, p, rfl, h1, h2⟩ := hcs.unsnoc
  rw [show (init ++ [x]).length = init.length + 1 by simp] at hrow
  have hl := h1.length
  rcases id hrow.2 with ⟨_, h0⟩ | ⟨g, cap, cur, rfl, hb, hg, c1, c2, c3, c4⟩
  · omega
  · refine ⟨g, cap, p, cs, _, rfl, hb, lt_of_heap hg, c1, c2, h2, hrow, h1, hg, hrow.frozenAt, fun j u hj => ?_⟩
    have hj8 := (List.getElem?_eq_some_iff.1 hj).1
    rw [htCells_length] at hj8
    rw [hrow.cellAt (init.length * 8 + j) (by omega), ← hl, List.getElem?_append_right (by omega), Nat.add_sub_cancel_left]
    exact hj

/-- A filling lies in a box, its tokens in a row of blocks from n on. -/
structure Fs (W : World) (n fb : Nat) (ov : Value) (f : Ep.Fl) : Prop where
  blk : W.heap[fb]? = some (.cells #[ov, .bool f.gl] 147 (0, 0))
  hn : n ≤ fb
  row : HRow W n ov f.out
theorem Fs.below {W W' : World} {n fb : Nat} {ov : Value} {f : Ep.Fl} (h : Fs W n fb ov f) (hb : Below W.heap.size W W') : Fs W' n fb ov f :=
  ⟨(hb.block _ (lt_of_heap h.blk)).trans h.blk, h.hn, h.row.below hb⟩
theorem Fs.setGl {W : World} {n fb : Nat} {ov : Value} {f : Ep.Fl} (h : Fs W n fb ov f) (b : Bool) : Fs (W.setCell ⟨fb, 1, none⟩ (.bool b)) n fb ov ⟨f.out, b⟩ := by
  obtain ⟨cs, hrow, hcs⟩ := h.row
  refine ⟨by simp [World.setCell, Array.getElem?_modify, h.blk], h.hn, cs, ?_, hcs.keep (Kept.set h.blk (by decide))⟩
  refine ownsRow_setCell_other hrow (fun e => ?_) _
  rcases hrow.2 with ⟨h', _⟩ | ⟨g, cap, cur, h', _, hg, _⟩
  · rw [h'] at e; cases e
  · rw [h'] at e
    injection e with e
    have e : g = fb := e
    rw [e, h.blk] at hg
    injection hg with hg; injection hg with _ h _; exact absurd h (by decide)
/-- The last token is set. -/
theorem Fs.setLast {W : World} {n fb g cap : Nat} {init : List HT} {x y : HT} {gl : Bool} {p q : Option Addr} {cs : List Value} {cur : Array Value} (hblk : W.heap[fb]? = some (.cells #[.slice (some ⟨g, 0, none⟩) (init.length + 1) cap, .bool gl] 147 (0, 0))) (hn : n ≤ fb)
    (hrow : W.ownsRow n 92 8 (.slice (some ⟨g, 0, none⟩) (init.length + 1) cap) (init.length + 1) (cs ++ htCells x p)) (hcs : HCs W init cs) (hg : W.heap[g]? = some (.cells cur 92 (0, 0))) (hq : HidP W q y.hd) :
    Fs (put8 W g (init.length * 8) (.int .i64 y.t.kind) (.string y.t.text) (.int .i64 y.t.file) (.int .i64 y.t.fr) (.int .i64 y.t.en) (.bool y.t.bl) (.pointer q) (.bool y.mark)) n fb (.slice (some ⟨g, 0, none⟩) (init.length + 1) cap) ⟨init ++ [y], gl⟩ := by
  have ho := put8_only W g (init.length * 8) (.int .i64 y.t.kind) (.string y.t.text) (.int .i64 y.t.file) (.int .i64 y.t.fr) (.int .i64 y.t.en) (.bool y.t.bl) (.pointer q) (.bool y.mark)
  have hne : fb ≠ g := fun e => by rw [e, hg] at hblk; injection hblk with h; injection h with _ h _; exact absurd h (by decide)
  refine ⟨(ho fb hne).trans hblk, hn, cs ++ htCells y q, ?_, (hcs.keep (ho.kept hg (by decide))).snoc (hq.keep (ho.kept hg (by decide)))⟩
  rw [show (init ++ [y]).length = init.length + 1 by simp]
  exact row_put8 hrow hcs.length y q
/-- A token is laid behind the others. -/
theorem Fs.push {w W W1 W2 : World} {n fb L : Nat} {ov ov' : Value} {out : List HT} {t : HT} {p : Option Addr} {gl : Bool} {cs : List Value} (hblk : W.heap[fb]? = some (.cells #[ov, .bool gl] 147 (0, 0))) (hn : n ≤ fb)
    (hrow : W.ownsRow n 92 8 ov L cs) (hcs : HCs W out cs) (hL : L = out.length) (hp : HidP W p t.hd) (hB : Below n w W) (hnW : n ≤ W.heap.size) (hal : Below W.heap.size W W1)
    (hown : W2.ownsRow n 92 8 ov' (L + 1) (cs ++ htCells t p)) (hgrow : W1.grownBy W2 ov.ownBlock) :
    Fs (W2.setCell ⟨fb, 0, none⟩ ov') n fb ov' ⟨out ++ [t], gl⟩ ∧ Below n w (W2.setCell ⟨fb, 0, none⟩ ov') := by
  have off : ∀ {X : World} {v : Value} {m : Nat} {xs : List Value}, X.ownsRow n 92 8 v m xs → X.heap[fb]? = some (.cells #[ov, .bool gl] 147 (0, 0)) → v.ownBlock ≠ some fb := fun {X v m xs} h hb e => by
    rcases h.2 with ⟨h', _⟩ | ⟨g, cap, cur, h', _, hg, _⟩
    · rw [h'] at e; cases e
    · rw [h'] at e
      injection e with e
      have e : g = fb := e
      rw [e, hb] at hg
      injection hg with hg; injection hg with _ h _; exact absurd h (by decide)
  have hblk1 := (hal.block _ (lt_of_heap hblk)).trans hblk
  have hblk2 := (hgrow.block fb (lt_of_heap hblk1) (Ne.symm (off hrow hblk))).trans hblk1
  have hrow1 := row_below hrow hal
  have k2 : Kept 137 W W2 := (Kept.of_below hal _).trans (row_kept hrow1 hgrow (by decide))
  have s2 := Kept.set (t := 137) (i := 0) (u := ov') hblk2 (by decide)
  refine ⟨⟨by simp [World.setCell, Array.getElem?_modify, hblk2], hn, cs ++ htCells t p, ?_, ((hcs.keep k2).keep s2).snoc ((hp.keep k2).keep s2)⟩, ?_⟩
  · rw [show (out ++ [t]).length = L + 1 by simp [hL]]
    exact ownsRow_setCell_other hown (off hown hblk2) _
  · exact ((hB.trans (hal.mono hnW)).grown hgrow (Nat.le_trans hnW hal.size) (fun i e => (hrow.lt i e).1)).setCell hn _
end Go.Proofs.YtlepnafgcmeimaaGreatDoor

/- What is proved: what add does where it lays a token behind the others. -/
namespace Go.Proofs.YtlepnafgcmeimaaGreatDoor
open Go.RowKit Go.Shelf
open Ep (HT)

def AddPost (n fb : Nat) (w : World) (r : Except Int Ep.Fl) (e : Ending) (w' : World) : Prop :=
  match r with
  | .ok f => e = .returned (.int .i64 0) ∧ (∃ ov, Fs w' n fb ov f) ∧ Below n w w'
  | .error k => e = .returned (.int .i64 k) ∧ k ≠ 0 ∧ Below n w w'
noncomputable def addBody : Code := Tryz.f97.body.getD .skip
def boxHt (t : HT) (p : Option Addr) : Obj := .cells #[.int .i64 t.t.kind, .string t.t.text, .int .i64 t.t.file, .int .i64 t.t.fr, .int .i64 t.t.en, .bool t.t.bl, .pointer p, .bool t.mark] 92 (0, 0)

set_option maxRecDepth 100000 in
set_option maxHeartbeats 4000000 in
theorem add_end (w W : World) (n fb B : Nat) (ov : Value) (f : Ep.Fl) (t : HT) (p : Option Addr) (c1 c2 c5 c6 c7 c8 c9 c10 c11 c12 c13 c14 c15 c16 c17 c18 c19 c20 c21 c22 c23 c24 c25 c26 c27 c28 c29 c30 c31 c32 c33 c34 c35 c36 c37 c38 c39 c40 c41 c42 c43 c44 c45 c46 c47 c48 c49 c50 c51 c52 c53 c54 c55 c56 c57 c58 c59 c60 c61 c62 c63 c64 c65 c66 c67 c68 c69 c70 c71 c72 c73 c74 c75 c76 c77 : Value) (h : Fs W n fb ov f) (hbx : W.heap[B]? = some (boxHt t p))
    (hp : HidP W p t.hd) (hB : Below n w W) (hn : n ≤ W.heap.size) (hl : f.out.length < 4000) (hgl : f.out = [] ∨ ∃ i l, f.out = i ++ [l] ∧ f.gl = false ∧ l.mark = false) :
    Code.wp Tryz.prog (secs 1 addBody) (bodyPost Tryz.prog Tryz.f97 (AddPost n fb w (.ok ⟨f.out ++ [t], f.gl⟩))) ⟨#[.pointer (some ⟨fb, 0, none⟩), c1, c2, .pointer (some ⟨B, 0, none⟩), .int .i64 0, c5, c6, c7, c8, c9, c10, c11, c12, c13, c14, c15, c16, c17, c18, c19, c20, c21, c22, c23, c24, c25, c26, c27, c28, c29, c30, c31, c32, c33, c34, c35, c36, c37, c38, c39, c40, c41, c42, c43, c44, c45, c46, c47, c48, c49, c50, c51, c52, c53, c54, c55, c56, c57, c58, c59, c60, c61, c62, c63, c64, c65, c66, c67, c68, c69, c70, c71, c72, c73, c74, c75, c76, c77], []⟩ W := by
  obtain ⟨i0, hi, hz0, hz1, hz2⟩ := info_parts infoHt
  have HI := Lib.hid hi
  have HZ0 := Lib.hid hz0
  have HZ1 := Lib.hid hz1
  have HZ2 := Lib.hid hz2
  clear hi hz0 hz1 hz2
  have hlt := lt_of_heap h.blk
  have hBl := lt_of_heap hbx
  obtain ⟨out, gl⟩ := f
  obtain ⟨cs, hrow, hcs⟩ := h.row
  have hoff : some fb ≠ ov.ownBlock := fun e => by
    rcases hrow.2 with ⟨h', _⟩ | ⟨g', cap', cur, h', _, h2', _⟩
    · rw [h'] at e; cases e
    · rw [h'] at e
      simp only [Value.ownBlock, Option.some.injEq] at e
      rw [← e, h.blk] at h2'
      injection h2' with h2'; injection h2' with _ h2' _; exact absurd h2' (by decide)
  obtain ⟨⟨kd, tx, fl, fr, en, bl⟩, hd, mk⟩ := t
  unfold boxHt at hbx
  dsimp only at hbx hp
  obtain ⟨x0, x1, x2, x3, x4, x5, x6, x7, xf⟩ := box8_cells hbx
  have hf0 : W.frozen? ⟨fb, 0, none⟩ = false := by simp [World.frozen?, h.blk]
  have HF2 := Lib.hid (show ((W.alloc (.cells #[.int .i64 kd, .string tx, .int .i64 fl, .int .i64 fr, .int .i64 en, .bool bl, .pointer p, .bool mk] 92)).drew).frozen? ⟨fb, 0, none⟩ = false from (World.frozen?_of_block (w := W) (a := ⟨fb, 0, none⟩) (Below.heap_alloc W _ fb hlt)).trans hf0)
  have hA : Below W.heap.size W ((W.alloc (.cells #[.int .i64 kd, .string tx, .int .i64 fl, .int .i64 fr, .int .i64 en, .bool bl, .pointer p, .bool mk] 92)).drew) := ((Below.refl _ _).alloc (Nat.le_refl _) _).drew
  have HLT0 := Lib.hid (show fb < ((W.alloc (.cells #[.int .i64 kd, .string tx, .int .i64 fl, .int .i64 fr, .int .i64 en, .bool bl, .pointer p, .bool mk] 92)).drew).heap.size by simp; omega)
  have hbase0 : n ≤ ((W.alloc (.cells #[.int .i64 kd, .string tx, .int .i64 fl, .int .i64 fr, .int .i64 en, .bool bl, .pointer p, .bool mk] 92)).drew).heap.size := by simp; omega
  have HH := Lib.hid h
  have HBX := Lib.hid hbx
  have HP := Lib.hid hp
  have HB := Lib.hid hB
  have HCS := Lib.hid hcs
  have HOFF := Lib.hid hoff
  have HA := Lib.hid hA
  have HN := Lib.hid hn
  clear hbx hp hB hcs hoff hA hf0
  rcases hgl with he | ⟨i, l, he, hg, hm⟩
  · dsimp only at he hl
    subst he
    obtain ⟨ad, cap, rfl, b1, b2⟩ := h.row.hs.form
    simp only [List.length_nil] at h b1 hrow
    have hblk := h.blk
    have HRW := Lib.hid hrow
    have c0 : W.cell? ⟨fb, 0, none⟩ = some (.slice ad 0 cap) := (Lib.cell_of_heap hblk 0).trans rfl
    have HC2 := Lib.hid (show ((W.alloc (.cells #[.int .i64 kd, .string tx, .int .i64 fl, .int .i64 fr, .int .i64 en, .bool bl, .pointer p, .bool mk] 92)).drew).cell? ⟨fb, 0, none⟩ = some (.slice ad 0 cap) from Lib.cell?_alloc_some _ c0)
    have KT := Lib.hid (etooMany_no fb _ _ _ W c0 (by omega))
    clear h hrow hblk
    refine wp_sec 1 addBody rfl ?_
    conv => arg 2; whnf
    go_wp2_with fail
    refine wp_sec 2 addBody rfl ?_
    conv => arg 2; whnf
    go_wp2_with fail
    refine (KT.out).mono ?_
    rintro e4 w4 ⟨rfl, hw4⟩
    rw [hw4]
    clear hw4
    go_wp2_with fail
    go_region_law ((refine step_append_lies _ rfl (.tmp 18) (.tmp 20) 54 rfl n 92 i0 _ 8 72 Tryz.underlying54 HI.out HZ0.out HZ1.out HZ2.out rfl (by omega) (.slice ad 0 cap) 0 cs rfl ?_ ⟨W.heap.size, 0, none⟩ 1 1 [.int .i64 kd, .string tx, .int .i64 fl, .int .i64 fr, .int .i64 en, .bool bl, .pointer p, .bool mk] rfl rfl ?_ (by simp [Value.oneCell']) (by omega) (by unfold maxLen; omega) (by omega) ?_ (W.heap.size + 1) ?_ ?_; exact ((HRW.out.alloc _).drew); exact World.news_of_block (cs := #[.int .i64 kd, .string tx, .int .i64 fl, .int .i64 fr, .int .i64 en, .bool bl, .pointer p, .bool mk]) (t := 92) (fr := (0, 0)) (heap_alloc_new W _); exact hbase0; simp; intro g2 cap' w1 hown hgrow hat hlt1; have hc1w := (hgrow.cell_far ⟨fb, 0, none⟩ HLT0.out HOFF.out).trans HC2.out; have hfzw := (hgrow.frozen_far ⟨fb, 0, none⟩ HLT0.out HOFF.out).trans HF2.out))
    all_goals
      have hF := Fs.push (t := ⟨⟨kd, tx, fl, fr, en, bl⟩, hd, mk⟩) HH.out.blk HH.out.hn HRW.out HCS.out (by simp) HP.out HB.out HN.out HA.out hown hgrow
      have HF := Lib.hid hF
      clear hF hown hgrow hat hlt1 hc1w hfzw
      go_wp2_with fail
      refine wp_sec 3 addBody rfl ?_
      conv => arg 2; whnf
      go_wp2_with fail
      conv => arg 2; whnf
      go_wp2_with fail
      exact bodyPost_ret (v := .int .i64 0) (by simp [results, Tryz.results97, go_sem]) rfl ⟨rfl, ⟨_, by have h9 := HF.out.1; first | exact h9 | (rw [List.append_assoc] at h9; exact h9)⟩, HF.out.2⟩
  · dsimp only at he hl
    subst he
    dsimp only at hg
    subst hg
    obtain ⟨g, cap, pl, cs', cur, rfl, hng, hgl, b1, b2, hpl, hrow2, hcs2, hg, hfz, hcell⟩ := h.row.last
    rw [show (i ++ [l]).length = i.length + 1 by simp] at hrow hl
    have d7 := hcell 7 _ rfl
    rw [hm] at d7
    have q1 : (0 : Int) ≤ (i.length : Int) := by omega
    have q2 : (i.length : Int) < (i.length : Int) + 1 := by omega
    have q3 : IntKind.i64.wrap ((i.length : Int) + 1 - 1) = i.length := by rw [Int.add_sub_cancel]; exact IntWalk.i64_in _ (by omega)
    have q4 : ((i.length : Int) + 1 - 1) = i.length := Int.add_sub_cancel _ _
    have g1 : W.cell? ⟨fb, 1, none⟩ = some (.bool false) := (Lib.cell_of_heap h.blk 1).trans rfl
    have HRW2 := Lib.hid hrow2
    have HCELL := Lib.hid hcell
    have HFZ := Lib.hid hfz
    have HG := Lib.hid hg
    clear hrow2 hcs2 hg hfz hcell hpl
    have hblk := h.blk
    have HRW := Lib.hid hrow
    have c0 : W.cell? ⟨fb, 0, none⟩ = some (.slice (some ⟨g, 0, none⟩) (i.length + 1) cap) := (Lib.cell_of_heap hblk 0).trans rfl
    have HC2 := Lib.hid (show ((W.alloc (.cells #[.int .i64 kd, .string tx, .int .i64 fl, .int .i64 fr, .int .i64 en, .bool bl, .pointer p, .bool mk] 92)).drew).cell? ⟨fb, 0, none⟩ = some (.slice (some ⟨g, 0, none⟩) (i.length + 1) cap) from Lib.cell?_alloc_some _ c0)
    have KT := Lib.hid (etooMany_no fb _ _ _ W c0 (by omega))
    clear h hrow hblk
    refine wp_sec 1 addBody rfl ?_
    conv => arg 2; whnf
    go_wp2_with fail
    refine wp_sec 2 addBody rfl ?_
    conv => arg 2; whnf
    go_wp2_with fail
    refine (KT.out).mono ?_
    rintro e4 w4 ⟨rfl, hw4⟩
    rw [hw4]
    clear hw4
    go_wp2_with fail
    go_region_law ((refine step_append_lies _ rfl (.tmp 18) (.tmp 20) 54 rfl n 92 i0 _ 8 72 Tryz.underlying54 HI.out HZ0.out HZ1.out HZ2.out rfl (by omega) (.slice (some ⟨g, 0, none⟩) (i.length + 1) cap) (i.length + 1) cs rfl ?_ ⟨W.heap.size, 0, none⟩ 1 1 [.int .i64 kd, .string tx, .int .i64 fl, .int .i64 fr, .int .i64 en, .bool bl, .pointer p, .bool mk] rfl rfl ?_ (by simp [Value.oneCell']) (by omega) (by unfold maxLen; omega) (by omega) ?_ (W.heap.size + 1) ?_ ?_; exact ((HRW.out.alloc _).drew); exact World.news_of_block (cs := #[.int .i64 kd, .string tx, .int .i64 fl, .int .i64 fr, .int .i64 en, .bool bl, .pointer p, .bool mk]) (t := 92) (fr := (0, 0)) (heap_alloc_new W _); exact hbase0; simp; intro g2 cap' w1 hown hgrow hat hlt1; have hc1w := (hgrow.cell_far ⟨fb, 0, none⟩ HLT0.out HOFF.out).trans HC2.out; have hfzw := (hgrow.frozen_far ⟨fb, 0, none⟩ HLT0.out HOFF.out).trans HF2.out))
    all_goals
      have hF := Fs.push (t := ⟨⟨kd, tx, fl, fr, en, bl⟩, hd, mk⟩) HH.out.blk HH.out.hn HRW.out HCS.out (by simp) HP.out HB.out HN.out HA.out hown hgrow
      have HF := Lib.hid hF
      clear hF hown hgrow hat hlt1 hc1w hfzw
      go_wp2_with fail
      refine wp_sec 3 addBody rfl ?_
      conv => arg 2; whnf
      go_wp2_with fail
      conv => arg 2; whnf
      go_wp2_with fail
      exact bodyPost_ret (v := .int .i64 0) (by simp [results, Tryz.results97, go_sem]) rfl ⟨rfl, ⟨_, by have h9 := HF.out.1; first | exact h9 | (rw [List.append_assoc] at h9; exact h9)⟩, HF.out.2⟩

end Go.Proofs.YtlepnafgcmeimaaGreatDoor
