/- Plain: macros of texts: what read tells, and how large they are. (and what stands with it) -/
import Derived.Test.YtlepnafgcmeimaaGreatDoorGp
import Derived.Test.YtlepnafgcmeimaaGreatDoorGl
import Derived.Test.YtlepnafgcmeimaaGreatDoorGf
import Derived.Test.YtlepnafgcmeimaaGreatDoorGn
import Derived.Deep.QuietTactic
import Derived.BigQuiet
import Derived.Test.YtlepnafgcmeimaaGreatDoorGi
import Derived.Test.YtlepnafgcmeimaaGreatDoorGo

/- Plain: macros of texts: what read tells, and how large they are. -/
namespace Go.Proofs.YtlepnafgcmeimaaGreatDoor
namespace Ep
open Mx (M isP has LP RP CM HS HH VA)

def toksAt (f : Int) (s : List UInt8) : List K := (Lx.tk false (Sp.left 0 s)).map (ofT f)
theorem toksAt_len (f : Int) (s : List UInt8) : (toksAt f s).length ≤ s.length := by
  unfold toksAt
  rw [List.length_map]
  exact Nat.le_trans (Lx.tk_length _ _) (Sp.left_le 0 s)
open Lx (tb first blankLen)
theorem tb_short : ∀ (p : Bool) (u : List UInt8), ∀ t ∈ tb p u, t.2.1.length ≤ u.length := by
  refine Lx.tbInd ?_ ?_ ?_
  · intro p t ht; simp [Lx.tb_nil] at ht
  · intro p u hb ih t ht
    rw [Lx.tb_blank p u hb] at ht
    have := ih t ht
    rw [List.length_drop] at this
    omega
  · intro p u hu hb ih t ht
    rw [Lx.tb_tok p u hu hb] at ht
    rcases List.mem_cons.1 ht with rfl | ht
    · dsimp only
      rw [List.length_take]
      omega
    · have := ih t ht
      rw [List.length_drop] at this
      omega
theorem toksAt_short (f : Int) (s : List UInt8) (t : K) (ht : t ∈ toksAt f s) : t.text.size ≤ s.length := by
  obtain ⟨x, hx, rfl⟩ := List.mem_map.1 ht
  have hm : Lx.al x ∈ tb false (Lx.bytes (Sp.left 0 s)) := by rw [← Lx.tk_al]; exact List.mem_map_of_mem hx
  have h1 := tb_short false _ _ hm
  have h2 := Sp.left_le 0 s
  rw [show (Lx.bytes (Sp.left 0 s)).length = (Sp.left 0 s).length from List.length_map _] at h1
  simp only [Lx.al] at h1
  have e : (⟨x.text.toArray⟩ : ByteArray).size = x.text.length := by show x.text.toArray.size = _; simp
  show (⟨x.text.toArray⟩ : ByteArray).size ≤ _
  omega

theorem plist_ps (B : Nat) (n : Nat) : ∀ (l : List K) (ps : List ByteArray) (res : List ByteArray × Bool × List K), l.length ≤ n → Mx.plist ps l = some res → (∀ p ∈ ps, p.size ≤ B) → (∀ t ∈ l, t.text.size ≤ B) → res.1.length ≤ ps.length + l.length ∧ ∀ p ∈ res.1, p.size ≤ B := by
  induction n with
  | zero =>
    intro l ps res hl h _ _
    obtain rfl : l = [] := List.length_eq_zero_iff.1 (by omega)
    simp [Mx.plist] at h
  | succ n ih =>
    intro l ps res hl h hp ht
    match l, h with
    | [], h => simp [Mx.plist] at h
    | [_], h => simp [Mx.plist] at h
    | a :: b :: r, h =>
      rw [Mx.plist] at h
      have hps : ∀ p ∈ ps ++ [a.text], p.size ≤ B := fun p hp' => by
        rcases List.mem_append.1 hp' with h | h
        · exact hp p h
        · rw [List.mem_singleton.1 h]; exact ht a List.mem_cons_self
      split at h
      · split at h
        · cases h; exact ⟨by simp only [List.length_cons]; omega, hp⟩
        · cases h
      · split at h
        · split at h
          · cases h; exact ⟨by simp only [List.length_append, List.length_cons, List.length_nil]; omega, hps⟩
          · split at h
            · have := ih r (ps ++ [a.text]) res (by simp only [List.length_cons] at hl; omega) h hps (fun t hm => ht t (List.mem_cons_of_mem _ (List.mem_cons_of_mem _ hm)))
              simp only [List.length_append, List.length_cons, List.length_nil] at this ⊢
              exact ⟨by omega, this.2⟩
            · cases h
        · cases h
theorem brack_ps (B : Nat) {r : List K} {fn va : Bool} {ps : List ByteArray} {l : List K} (h : Mx.brack r = .ok (fn, ps, va, l)) (ht : ∀ t ∈ r, t.text.size ≤ B) : ps.length ≤ r.length ∧ ∀ p ∈ ps, p.size ≤ B := by
  unfold Mx.brack at h
  split at h
  · cases h; exact ⟨Nat.zero_le _, (fun p hp => by cases hp)⟩
  · rename_i u r'
    split at h
    · cases h; exact ⟨Nat.zero_le _, (fun p hp => by cases hp)⟩
    · split at h
      · split at h
        · cases h
        · rename_i c r''
          split at h
          · cases h; exact ⟨Nat.zero_le _, (fun p hp => by cases hp)⟩
          · split at h
            · cases h
            · rename_i ps' va' l' hpl
              cases h
              have := plist_ps B _ (c :: r'') [] _ (Nat.le_refl _) hpl (fun p hp => by cases hp) (fun t hm => ht t (List.mem_cons_of_mem _ hm))
              simp only [List.length_cons, List.length_nil] at this ⊢
              exact ⟨by omega, this.2⟩
      · cases h
theorem bodyOf_facts (B n : Nat) (nm : ByteArray) (fn va : Bool) (ps : List ByteArray) (l : List K) (hps : ps.length ≤ n) (hpz : ∀ p ∈ ps, p.size ≤ B) (hl : l.length ≤ n) (ht : ∀ t ∈ l, t.text.size ≤ B) :
    (Mx.bodyOf nm fn ps va l).1.ps.length ≤ n ∧ (∀ p ∈ (Mx.bodyOf nm fn ps va l).1.ps, p.size ≤ B) ∧ (Mx.bodyOf nm fn ps va l).1.body.length ≤ n ∧ ∀ t ∈ (Mx.bodyOf nm fn ps va l).1.body, t.text.size ≤ B := by
  have z : M.zero.ps.length ≤ n ∧ (∀ p ∈ M.zero.ps, p.size ≤ B) ∧ M.zero.body.length ≤ n ∧ ∀ t ∈ M.zero.body, t.text.size ≤ B :=
    ⟨Nat.zero_le _, (fun p hp => by cases hp), Nat.zero_le _, (fun p hp => by cases hp)⟩
  unfold Mx.bodyOf
  split
  · exact ⟨hps, hpz, Nat.zero_le _, (fun p hp => by cases hp)⟩
  · split
    · exact z
    · split
      · exact z
      · split
        · exact z
        · refine ⟨hps, hpz, ?_, ?_⟩
          · cases l with
            | nil => exact Nat.zero_le _
            | cons t r => exact hl
          · cases l with
            | nil => intro t h; cases h
            | cons t r =>
              intro u hu
              rcases List.mem_cons.1 hu with rfl | hu
              · exact ht t List.mem_cons_self
              · exact ht u (List.mem_cons_of_mem _ hu)
theorem defi_facts (B : Nat) (l : List K) (ht : ∀ t ∈ l, t.text.size ≤ B) :
    (Mx.defi l).1.ps.length ≤ l.length ∧ (∀ p ∈ (Mx.defi l).1.ps, p.size ≤ B) ∧ (Mx.defi l).1.body.length ≤ l.length ∧ ∀ t ∈ (Mx.defi l).1.body, t.text.size ≤ B := by
  have z : M.zero.ps.length ≤ l.length ∧ (∀ p ∈ M.zero.ps, p.size ≤ B) ∧ M.zero.body.length ≤ l.length ∧ ∀ t ∈ M.zero.body, t.text.size ≤ B :=
    ⟨Nat.zero_le _, (fun p hp => by cases hp), Nat.zero_le _, (fun p hp => by cases hp)⟩
  unfold Mx.defi
  split
  · exact ⟨Nat.zero_le _, (fun p hp => by cases hp), Nat.zero_le _, (fun p hp => by cases hp)⟩
  · rename_i t r
    split
    · split
      · exact z
      · rename_i fn ps va b hb
        have h1 := brack_ps B hb (fun u hu => ht u (List.mem_cons_of_mem _ hu))
        have h2 := brack_suffix hb
        exact bodyOf_facts B _ _ _ _ _ _ (by simp only [List.length_cons]; omega) h1.2 (by have := h2.length_le; simp only [List.length_cons]; omega) (fun u hu => ht u (List.mem_cons_of_mem _ (h2.subset hu)))
    · exact z

/-- The macros of texts, or that they are none. -/
def defAt (i : Nat) (d : ByteArray) : M × Int := Mx.defi (toksAt ((i : Int) + 1) d.data.toList)
def readM : Nat → List ByteArray → Option (List M)
  | _, [] => some []
  | i, d :: r => if (defAt i d).2 = 0 ∧ d.size ≤ 200 then (readM (i + 1) r).map ((defAt i d).1 :: ·) else none
def readR (ds : List ByteArray) : Option (List M) := if ds.length > 12 then none else readM 0 ds
/-- A macro of a text of at most 200 bytes. -/
structure MSmall (m : M) : Prop where
  ps : m.ps.length ≤ 200
  psz : ∀ p ∈ m.ps, p.size ≤ 200
  bl : m.body.length ≤ 200
  bsz : ∀ u ∈ m.body, u.text.size ≤ 200
theorem MSmall.ok {m : M} (h : MSmall m) : MOk m :=
  ⟨by have := h.ps; omega, fun p hp => by have := h.psz p hp; omega, by have := h.bl; omega, fun u hu => by have := h.bsz u hu; omega⟩
theorem defAt_small (i : Nat) (d : ByteArray) (h : d.size ≤ 200) : MSmall (defAt i d).1 := by
  have e : d.data.toList.length = d.size := size_list d
  have h1 := toksAt_len ((i : Int) + 1) d.data.toList
  obtain ⟨a, b, c, d'⟩ := defi_facts 200 (toksAt ((i : Int) + 1) d.data.toList) (fun t ht => by have := toksAt_short _ _ t ht; omega)
  exact ⟨by unfold defAt; omega, b, by unfold defAt; omega, d'⟩
theorem readM_small : ∀ (ds : List ByteArray) (i : Nat) (ms : List M), readM i ds = some ms → ms.length = ds.length ∧ ∀ m ∈ ms, MSmall m
  | [], _, ms, h => by cases h; exact ⟨rfl, fun m hm => by cases hm⟩
  | d :: r, i, ms, h => by
    rw [readM] at h
    split at h
    · rename_i hc
      obtain ⟨ms', h', rfl⟩ := Option.map_eq_some_iff.1 h
      obtain ⟨e, f⟩ := readM_small r (i + 1) ms' h'
      refine ⟨by simp only [List.length_cons, e], fun m hm => ?_⟩
      rcases List.mem_cons.1 hm with rfl | hm
      · exact defAt_small i d hc.2
      · exact f m hm
    · cases h
theorem readR_small {ds : List ByteArray} {ms : List M} (h : readR ds = some ms) : ms.length = ds.length ∧ ms.length ≤ 12 ∧ ∀ m ∈ ms, MSmall m := by
  unfold readR at h
  split at h
  · cases h
  · obtain ⟨a, b⟩ := readM_small ds 0 ms h
    exact ⟨a, by omega, b⟩
end Ep
end Go.Proofs.YtlepnafgcmeimaaGreatDoor

/- What is proved: what begun makes. -/
namespace Go.Proofs.YtlepnafgcmeimaaGreatDoor
open Go.RowKit Go.Shelf
open Ep (HT XS)
open Mx (M)

/-! ### plain -/
theorem Ep.ixOf_snoc (s : ByteArray) (m : M) : ∀ (l : List M) (i : Nat), Ep.ixOf s (l ++ [m]) i = match Ep.ixOf s l i with | some j => some j | none => if m.name = s then some (i + l.length) else none
  | [], i => rfl
  | a :: r, i => by
    rw [List.cons_append, Ep.ixOf, Ep.ixOf]
    by_cases h : a.name = s
    · rw [if_pos h, if_pos h]
    · rw [if_neg h, if_neg h, Ep.ixOf_snoc s m r (i + 1), List.length_cons, show i + 1 + r.length = i + (r.length + 1) by omega]
theorem take_snoc {α : Type} {l : List α} {k : Nat} {x : α} (h : l[k]? = some x) : l.take (k + 1) = l.take k ++ [x] := by
  have hk := (List.getElem?_eq_some_iff.1 h).1
  rw [List.take_succ_eq_append_getElem hk, (List.getElem?_eq_some_iff.1 h).2]

/-! ### macros in memory -/
def MacAt (W : World) (g o : Nat) (m : M) : Prop :=
  ∃ pv bv, W.cell? ⟨g, o, none⟩ = some (.string m.name) ∧ W.cell? ⟨g, o + 1, none⟩ = some (.bool m.fn) ∧ W.cell? ⟨g, o + 2, none⟩ = some pv ∧ W.cell? ⟨g, o + 3, none⟩ = some (.bool m.va) ∧ W.cell? ⟨g, o + 4, none⟩ = some bv ∧ MacV W (.agg #[.string m.name, .bool m.fn, pv, .bool m.va, bv]) m
/-- A slice value whose elements are these macros. -/
def MsV (W : World) (v : Value) (ms : List M) : Prop :=
  ∃ ad cap, v = .slice ad ms.length cap ∧ ms.length ≤ cap ∧ cap ≤ maxLen ∧ ∀ i m, ms[i]? = some m → ∃ g o, ad = some ⟨g, o, none⟩ ∧ MacAt W g (o + i * 5) m
theorem MacAt.below {W W' : World} {g o : Nat} {m : M} (h : MacAt W g o m) (hb : Below W.heap.size W W') : MacAt W' g o m := by
  obtain ⟨pv, bv, c0, c1, c2, c3, c4, hm⟩ := h
  have hlt := lt_of_cell c0
  have q : ∀ (j : Nat) (u : Value), W.cell? ⟨g, j, none⟩ = some u → W'.cell? ⟨g, j, none⟩ = some u := fun j u hu => (hb.cell (p := ⟨g, j, none⟩) hlt).trans hu
  exact ⟨pv, bv, q _ _ c0, q _ _ c1, q _ _ c2, q _ _ c3, q _ _ c4, hm.below hb⟩
theorem MsV.below {W W' : World} {v : Value} {ms : List M} (h : MsV W v ms) (hb : Below W.heap.size W W') : MsV W' v ms := by
  obtain ⟨ad, cap, e, h1, h2, h3⟩ := h
  refine ⟨ad, cap, e, h1, h2, fun i m hm => ?_⟩
  obtain ⟨g, o, e2, h4⟩ := h3 i m hm
  exact ⟨g, o, e2, h4.below hb⟩

/-! ### steps of the map -/
theorem XM.start {w0 W : World} {xb mb : Nat} (hb : W.heap[xb]? = some (.cells #[.map (some mb), .int .i64 0, .int .i64 0] 81 (0, 0))) (hx : w0.heap.size ≤ xb) (hm : w0.heap.size ≤ mb) (hmp : MpAt strKey W mb []) (hB : Below w0.heap.size w0 W) :
    XM w0 W xb mb (fun _ => 0) [] ⟨[], 0⟩ :=
  ⟨hb, hx, ⟨[], hmp, fun s => rfl⟩, hm, fun j m h _ => by simp at h, hB, by show 0 ≤ 60; omega, by show 0 ≤ 1000; omega⟩
theorem XM.known {w0 W : World} {xb mb : Nat} {kb : Nat → Nat} {ms : List M} {X : XS} {m : M} {j : Nat} (h : XM w0 W xb mb kb ms X) (hj : Ep.ixOf m.name ms 0 = some j) : XM w0 W xb mb kb (ms ++ [m]) X := by
  have key : ∀ s, Ep.ixOf s (ms ++ [m]) 0 = Ep.ixOf s ms 0 := fun s => by
    rw [Ep.ixOf_snoc]
    cases hs : Ep.ixOf s ms 0 with
    | some i => rfl
    | none =>
      dsimp only
      by_cases e : m.name = s
      · rw [← e, hj] at hs; cases hs
      · rw [if_neg e]
  refine ⟨h.blk, h.hx, ?_, h.hm, fun i m' h1 h2 => ?_, h.bl, h.np, h.st⟩
  · obtain ⟨es, a, b⟩ := h.mp
    exact ⟨es, a, fun s => by rw [b, key]⟩
  · rw [key] at h2
    obtain ⟨m2, h3, -⟩ := Ep.ixOf_some h2
    have hlt := (List.getElem?_eq_some_iff.1 h3).1
    rw [List.getElem?_append_left hlt] at h1
    exact h.kn i m' h1 h2
theorem XM.fresh {w0 W W2 W3 : World} {xb mb B : Nat} {kb : Nat → Nat} {ms : List M} {pv bv : Value} {m : M} {es : List (ByteArray × Value)} (h : XM w0 W xb mb kb ms ⟨[], 0⟩) (_ : Ep.ixOf m.name ms 0 = none) (hmv : MacV w0 (.agg #[.string m.name, .bool m.fn, pv, .bool m.va, bv]) m)
    (he : ∀ s, lk s es = (Ep.ixOf s ms 0).map fun j => Value.pointer (some ⟨kb j, 0, none⟩)) (hB : w0.heap.size ≤ B) (hb : Below W.heap.size W W2) (hbx : W2.heap[B]? = some (.cells #[.string m.name, .bool m.fn, pv, .bool m.va, bv, .pointer none] 85 (0, 0)))
    (hmp : MpAt strKey W3 mb (es ++ [(m.name, .pointer (some ⟨B, 0, none⟩))])) (hg : W2.grownBy W3 (some mb)) : ∃ kb', XM w0 W3 xb mb kb' (ms ++ [m]) ⟨[], 0⟩ := by
  obtain ⟨es0, a0, -⟩ := h.mp
  obtain ⟨arr, clock, hma, -⟩ := a0
  have hma2 := (hb.block mb (lt_of_heap hma)).trans hma
  have hk : ∀ (b : Nat) (cs : Array Value) (t : TypeId) (fz : Nat × Nat), W2.heap[b]? = some (.cells cs t fz) → W3.heap[b]? = some (.cells cs t fz) := fun b cs t fz hbb => (hg.block b (lt_of_heap hbb) (fun e => by
    injection e with e
    rw [e, hma2] at hbb
    cases hbb)).trans hbb
  have hk1 : ∀ (b : Nat) (cs : Array Value) (t : TypeId) (fz : Nat × Nat), W.heap[b]? = some (.cells cs t fz) → W3.heap[b]? = some (.cells cs t fz) := fun b cs t fz hbb => hk b cs t fz ((hb.block b (lt_of_heap hbb)).trans hbb)
  refine ⟨fun j => if j = ms.length then B else kb j, hk1 _ _ _ _ h.blk, h.hx, ⟨_, hmp, fun s => ?_⟩, h.hm, fun i m' h1 h2 => ?_, ?_, h.np, h.st⟩
  · rw [lk_snoc, he, Ep.ixOf_snoc]
    cases hs : Ep.ixOf s ms 0 with
    | some i =>
      obtain ⟨m2, h3, -⟩ := Ep.ixOf_some hs
      have hlt := (List.getElem?_eq_some_iff.1 h3).1
      simp only [Option.map_some]
      rw [if_neg (by omega)]
    | none =>
      simp only [Option.map_none, Nat.zero_add]
      by_cases e : m.name = s
      · rw [if_pos e, if_pos e, Option.map_some, if_pos rfl]
      · rw [if_neg e, if_neg e, Option.map_none]
  · rw [Ep.ixOf_snoc] at h2
    cases hs : Ep.ixOf m'.name ms 0 with
    | some i' =>
      rw [hs] at h2
      injection h2 with h2
      subst h2
      obtain ⟨m2, h3, -⟩ := Ep.ixOf_some hs
      have hlt := (List.getElem?_eq_some_iff.1 h3).1
      rw [List.getElem?_append_left hlt] at h1
      obtain ⟨pv', bv', pp', b1, b2, b3, b4⟩ := h.kn i' m' h1 hs
      rw [if_neg (by omega)]
      refine ⟨pv', bv', pp', hk1 _ _ _ _ b1, b2, b3, ?_⟩
      rcases b4 with b4 | ⟨q, _, _, _, b4, _⟩
      · exact .inl b4
      · cases b4
    | none =>
      rw [hs] at h2
      dsimp only at h2
      split at h2
      · injection h2 with h2
        rw [Nat.zero_add] at h2
        subst h2
        rw [List.getElem?_append_right (Nat.le_refl _), Nat.sub_self] at h1
        simp only [List.getElem?_cons_zero, Option.some.injEq] at h1
        subst h1
        rw [if_pos rfl]
        exact ⟨pv, bv, none, hk _ _ _ _ hbx, hmv, hB, .inl ⟨rfl, rfl⟩⟩
      · cases h2
  · have h2 := Below.then h.bl hb
    exact grown_below h2 hg h.hm h2.size

theorem makeMapKn (n : Int) (W : World) : (Instr.makeMap 79 (some (.int .i64 n))).run Tryz.prog W = .ok (.map (some W.heap.size)) (W.alloc (.map #[] 0)) := by
  simp [Instr.makeMap, run_underlying Tryz.underlying79, asInt]
  rfl
def BegunPost (w : World) (ms : List M) (e : Ending) (w' : World) : Prop := ∃ xb mb kb, e = .returned (.pointer (some ⟨xb, 0, none⟩)) ∧ XM w w' xb mb kb ms ⟨[], 0⟩
set_option maxRecDepth 100000 in
set_option maxHeartbeats 4000000 in
theorem ebegun_any (v : Value) (ms : List M) (w : World) (hv : MsV w v ms) (hl : ms.length ≤ 1000000) :
    Calls Tryz.prog 20 #[v] w (BegunPost w ms) := by
  obtain ⟨ad, cap, rfl, -, -, -⟩ := id hv
  obtain ⟨n, hn⟩ : ∃ n, n = ms.length := ⟨_, rfl⟩
  rw [← hn] at hl hv ⊢
  have hA : Below w.heap.size w ((w.alloc (.map #[] 0)).alloc (.cells #[.map (some w.heap.size), .int .i64 0, .int .i64 0] 81)) := ((Below.refl _ w).alloc (Nat.le_refl _) _).alloc (by simp) _
  have hm0 := (MpAt.new strKey w).below ((Below.refl _ _).alloc (Nat.le_refl _) (.cells #[.map (some w.heap.size), .int .i64 0, .int .i64 0] 81))
  have hbx := heap_alloc_new (w.alloc (.map #[] 0)) (.cells #[.map (some w.heap.size), .int .i64 0, .int .i64 0] 81)
  rw [World.size_alloc] at hbx
  have hX0 := XM.start hbx (Nat.le_succ _) (Nat.le_refl _) hm0 hA
  have hmm := makeMapKn (n : Int) w
  have HX0 := Lib.hid hX0
  have HV := Lib.hid hv
  have HN := Lib.hid hn
  clear hv hn hA hm0 hbx hX0
  go_enter Tryz.func20, Tryz.ntmps20
  go_wp2_with fail
  go_loopw [13] (fun a wr => ∃ (k : Nat) (kb : Nat → Nat), a = .int .i64 k ∧ k ≤ n ∧ XM w wr (w.heap.size + 1) w.heap.size kb (ms.take k) ⟨[], 0⟩) (fun a _ => n - (intOf a).toNat)
  case atStart => exact ⟨0, _, rfl, Nat.zero_le _, HX0.out⟩
  case round =>
    obtain ⟨k, kb, rfl, hk, hX⟩ := hrel
    by_cases hlt : k < n
    · obtain ⟨m, hm⟩ : ∃ m, ms[k]? = some m := ⟨_, List.getElem?_eq_getElem (by rw [← HN.out]; exact hlt)⟩
      obtain ⟨ad', cap', e, -, -, h3⟩ := HV.out
      injection e with e1 e2 e3
      obtain ⟨g, o, e4, pv, bv, c0, c1, c2, c3, c4, hmv⟩ := h3 k m hm
      obtain ⟨pa, pn, pc, rfl⟩ : ∃ a n c, pv = .slice a n c := by
        obtain ⟨pv', bv', epb, ⟨a, c, h1, -⟩, -⟩ := id hmv
        simp only [Value.agg.injEq] at epb
        simp at epb
        exact ⟨a, _, c, epb.1.trans h1⟩
      obtain ⟨ba, bn, bc, rfl⟩ : ∃ a n c, bv = .slice a n c := by
        obtain ⟨pv', bv', epb, -, ⟨a, c, h1, -⟩⟩ := id hmv
        simp only [Value.agg.injEq] at epb
        simp at epb
        exact ⟨a, _, c, epb.2.trans h1⟩
      rw [← e1] at e4
      subst e4 e1
      have hlt0 := lt_of_cell c0
      have q : ∀ (j : Nat) (u : Value), w.cell? ⟨g, j, none⟩ = some u → wr.cell? ⟨g, j, none⟩ = some u := fun j u hu => (hX.bl.cell (p := ⟨g, j, none⟩) hlt0).trans hu
      replace c0 := q _ _ c0
      replace c1 := q _ _ c1
      replace c2 := q _ _ c2
      replace c3 := q _ _ c3
      replace c4 := q _ _ c4
      have hgl : g < wr.heap.size := lt_of_cell c0
      have hal : Below wr.heap.size wr (wr.alloc (.cells #[.string m.name, .bool m.fn, .slice pa pn pc, .bool m.va, .slice ba bn bc] 32)) := (Below.refl _ wr).alloc (Nat.le_refl _) _
      have hX1 := hX.below hal
      have hbx1 := heap_alloc_new wr (.cells #[.string m.name, .bool m.fn, .slice pa pn pc, .bool m.va, .slice ba bn bc] 32)
      have htk := take_snoc hm
      obtain ⟨x0, x1, x2, -⟩ := box3_cells hX1.blk
      obtain ⟨m0, m1, m2, m3, m4⟩ := mac_cells hbx1
      have hlook := fun nn => (hX1.below (Below.drewN (Below.refl _ _) nn)).look m.name
      have z1 : (0 : Int) ≤ k := by omega
      have z2 : (k : Int) < n := by omega
      have HX1 := Lib.hid hX1
      have HM := Lib.hid hmv
      have HTK := Lib.hid htk
      have HBX := Lib.hid hbx1
      obtain ⟨nm, fn, ps, va, body⟩ := m
      dsimp only at *
      clear h3 hX hX1 hal q hmv htk hbx1 hm
      cases hix : Ep.ixOf nm (ms.take k) 0 with
      | some j =>
        simp only [hix, Option.map_some] at hlook
        have HIX := Lib.hid hix
        clear hix
        go_wp2_with fail
        go_quiet (fail)
        go_wp2_with fail
        go_roundw
        case rel => exact ⟨k + 1, kb, by go_num, by omega, by rw [HTK.out]; exact (HX1.out.below (Below.drewN (Below.refl _ _) _)).known HIX.out⟩
        case measure => simp [intOf]; omega
      | none =>
        simp only [hix, Option.map_none] at hlook
        have HIX := Lib.hid hix
        clear hix
        go_wp2_with fail
        go_quiet (fail)
        go_wp2_with fail
        have hX2 := HX1.out.below (Below.drewN (Below.refl _ _) nq)
        have hbx2 : ((wr.alloc (.cells #[.string nm, .bool fn, .slice pa pn pc, .bool va, .slice ba bn bc] 32)).drewN nq).heap[wr.heap.size]? = _ := HBX.out
        generalize hV : ((wr.alloc (.cells #[.string nm, .bool fn, .slice pa pn pc, .bool va, .slice ba bn bc] 32)).drewN nq) = V at hX2 hbx2 ⊢
        generalize wr.heap.size = B at hbx2 ⊢
        clear hV hlook x0 x1 x2 m0 m1 m2 m3 m4 c0 c1 c2 c3 c4
        obtain ⟨x0, x1, x2, -⟩ := box3_cells hX2.blk
        obtain ⟨m0, m1, m2, m3, m4⟩ := mac_cells hbx2
        obtain ⟨es, hmp, he⟩ := id hX2.mp
        have hal2 : Below V.heap.size V (V.alloc (.cells #[.string nm, .bool fn, .slice pa pn pc, .bool va, .slice ba bn bc, .pointer none] 85)) := (Below.refl _ V).alloc (Nat.le_refl _) _
        have hkb := heap_alloc_new V (.cells #[.string nm, .bool fn, .slice pa pn pc, .bool va, .slice ba bn bc, .pointer none] 85)
        have hnone : lk nm es = none := by rw [he, HIX.out]; rfl
        obtain ⟨W3, u1, u2, u3⟩ := new_str (hmp.below hal2.drew) nm hnone (.pointer (some ⟨V.heap.size, 0, none⟩))
        have hnew : ∃ kb', XM w W3 (w.heap.size + 1) w.heap.size kb' (ms.take k ++ [⟨nm, fn, ps, va, body⟩]) ⟨[], 0⟩ := hX2.fresh HIX.out HM.out he (by have := hX2.bl.size; exact this) hal2.drew hkb u2 u3
        have HNEW := Lib.hid hnew
        obtain ⟨y0, y1, y2, -⟩ := box3_cells ((hal2.block _ (lt_of_heap hX2.blk)).trans hX2.blk)
        obtain ⟨n0, n1, n2, n3, n4⟩ := mac_cells ((hal2.block _ (lt_of_heap hbx2)).trans hbx2)
        clear hX2 hbx2 hmp he hal2 hkb hnone u2 u3 hnew
        go_region
        all_goals
          go_wp2_with fail
          go_roundw
          case rel =>
            obtain ⟨kb', h⟩ := HNEW.out
            exact ⟨k + 1, kb', by go_num, by omega, by rw [HTK.out]; exact h⟩
          case measure => simp [intOf]; omega
    · obtain rfl : k = n := by omega
      rw [List.take_of_length_le (by rw [← HN.out]; exact Nat.le_refl _)] at hX
      have HX := Lib.hid hX
      clear hX
      go_wp2_with fail
      go_ret
      exact ⟨_, _, kb, rfl, HX.out⟩
end Go.Proofs.YtlepnafgcmeimaaGreatDoor

/- What is proved: what the laws' read tells of a list of texts. -/
namespace Go.Proofs.YtlepnafgcmeimaaGreatDoor
open Go.RowKit Go.Shelf
open Mx (M)

theorem infoMac : (Tryz.prog.info? 32).map (fun i => (i.zero, i.size, i.bytes)) = some (some (.agg #[.string ByteArray.empty, .bool false, .slice none 0 0, .bool false, .slice none 0 0]), 5, 80) := by kernel_rfl
theorem Mac.keep {W W' : World} {base : Nat} {v : Value} {m : M} (h : Mac W base v m) (k9 : Kept 9 W W') (kt : Kept 30 W W') : Mac W' base v m := by
  obtain ⟨pv, bv, e, h1, h2⟩ := h
  exact ⟨pv, bv, e, row_heapK h1 k9, row_heapK h2 kt⟩
/-- A row's cells are these macros'. -/
def MCs (W : World) : List Value → List M → Prop
  | vs, [] => vs = []
  | vs, m :: r => ∃ pv bv vs', vs = [.string m.name, .bool m.fn, pv, .bool m.va, bv] ++ vs' ∧ (∃ base, Mac W base (.agg #[.string m.name, .bool m.fn, pv, .bool m.va, bv]) m) ∧ MCs W vs' r
theorem MCs.keep {W W' : World} (k9 : Kept 9 W W') (kt : Kept 30 W W') : ∀ {ms : List M} {vs : List Value}, MCs W vs ms → MCs W' vs ms
  | [], _, h => h
  | _ :: _, _, ⟨pv, bv, vs', e, ⟨base, h1⟩, h2⟩ => ⟨pv, bv, vs', e, ⟨base, h1.keep k9 kt⟩, h2.keep k9 kt⟩
theorem MCs.len {W : World} : ∀ {ms : List M} {vs : List Value}, MCs W vs ms → vs.length = ms.length * 5
  | [], vs, h => by cases h; rfl
  | m :: r, vs, ⟨pv, bv, vs', e, _, h2⟩ => by
    have := h2.len
    rw [e]; simp only [List.length_append, List.length_cons, List.length_nil]; omega
theorem MCs.snoc {W : World} {pv bv : Value} {base : Nat} {m : M} (hm : Mac W base (.agg #[.string m.name, .bool m.fn, pv, .bool m.va, bv]) m) : ∀ {ms : List M} {vs : List Value}, MCs W vs ms → MCs W (vs ++ [.string m.name, .bool m.fn, pv, .bool m.va, bv]) (ms ++ [m])
  | [], vs, h => by cases h; exact ⟨pv, bv, [], by simp, ⟨base, hm⟩, rfl⟩
  | a :: r, vs, ⟨pv', bv', vs', e, h1, h2⟩ => ⟨pv', bv', _, by rw [e, List.append_assoc], h1, MCs.snoc hm h2⟩
theorem MCs.get {W : World} : ∀ {ms : List M} {vs : List Value} {i : Nat} {m : M}, MCs W vs ms → ms[i]? = some m → ∃ pv bv base, vs[i * 5]? = some (.string m.name) ∧ vs[i * 5 + 1]? = some (.bool m.fn) ∧ vs[i * 5 + 2]? = some pv ∧ vs[i * 5 + 3]? = some (.bool m.va) ∧ vs[i * 5 + 4]? = some bv ∧ Mac W base (.agg #[.string m.name, .bool m.fn, pv, .bool m.va, bv]) m
  | [], _, _, _, _, h => by simp at h
  | a :: r, vs, i, m, ⟨pv, bv, vs', e, ⟨base, h1⟩, h2⟩, h => by
    cases i with
    | zero =>
      simp only [List.getElem?_cons_zero, Option.some.injEq] at h
      subst h
      exact ⟨pv, bv, base, by rw [e]; rfl, by rw [e]; rfl, by rw [e]; rfl, by rw [e]; rfl, by rw [e]; rfl, h1⟩
    | succ i =>
      simp only [List.getElem?_cons_succ] at h
      obtain ⟨p, b, bs, g0, g1, g2, g3, g4, g5⟩ := h2.get h
      have key : ∀ j, vs[(i + 1) * 5 + j]? = vs'[i * 5 + j]? := fun j => by
        rw [e, List.getElem?_append_right (by simp only [List.length_cons, List.length_nil]; omega)]
        congr 1
        simp only [List.length_cons, List.length_nil]; omega
      exact ⟨p, b, bs, (key 0).trans g0, (key 1).trans g1, (key 2).trans g2, (key 3).trans g3, (key 4).trans g4, g5⟩
/-- A row of macros. -/
def MRow (W : World) (base : Nat) (v : Value) (ms : List M) : Prop := ∃ vs, W.ownsRow base 32 5 v ms.length vs ∧ MCs W vs ms
theorem MRow.val {W : World} {base : Nat} {v : Value} {ms : List M} (h : MRow W base v ms) : MsV W v ms := by
  obtain ⟨vs, h, hm⟩ := h
  have hc := fun g => h.cells (g := g)
  rcases h.2 with ⟨rfl, h0⟩ | ⟨g, cap, cur, rfl, _, _, h1, h2, _, _⟩
  · refine ⟨none, 0, by rw [h0], by omega, Nat.zero_le _, fun i x hx => ?_⟩
    rw [List.length_eq_zero_iff.1 h0] at hx
    simp at hx
  · refine ⟨_, cap, rfl, h1, h2, fun i m ht => ⟨g, 0, rfl, ?_⟩⟩
    obtain ⟨pv, bv, bs, g0, g1, g2, g3, g4, g5⟩ := hm.get ht
    have key : ∀ j u, vs[i * 5 + j]? = some u → W.cell? ⟨g, 0 + i * 5 + j, none⟩ = some u := fun j u hj => by
      have := hc g rfl (i * 5 + j) u hj
      rw [add_none] at this
      rw [← this]
      congr 2
      omega
    exact ⟨pv, bv, key 0 _ g0, key 1 _ g1, key 2 _ g2, key 3 _ g3, key 4 _ g4, g5.val⟩

/-- What read tells. -/
def MsPost (w : World) (o : Option (List M)) (e : Ending) (w' : World) : Prop :=
  Below w.heap.size w w' ∧ (match o with | some ms => ∃ mv, e = .returned (.tuple #[mv, .bool true]) ∧ MsV w' mv ms | none => e = .returned (.tuple #[.slice none 0 0, .bool false]))
theorem readM_drop {ds : List ByteArray} {k : Nat} {d : ByteArray} (h : ds[k]? = some d) (acc : List M) : (Ep.readM k (ds.drop k)).map (acc ++ ·) = if (Ep.defAt k d).2 = 0 ∧ d.size ≤ 200 then (Ep.readM (k + 1) (ds.drop (k + 1))).map ((acc ++ [(Ep.defAt k d).1]) ++ ·) else none := by
  have hk := (List.getElem?_eq_some_iff.1 h).1
  have e : ds.drop k = d :: ds.drop (k + 1) := by
    rw [List.drop_eq_getElem_cons hk, (List.getElem?_eq_some_iff.1 h).2]
  rw [e, Ep.readM]
  split
  · rw [Option.map_map]
    congr 1
    funext x
    simp
  · rfl
theorem sts_some {W : World} {ad : Option Addr} {n cap : Nat} {ds : List ByteArray} (h : Sts W (.slice ad n cap) ds) {i : Nat} {s : ByteArray} (hs : ds[i]? = some s) : ∃ g o, ad = some ⟨g, o, none⟩ ∧ W.cell? ⟨g, o + i, none⟩ = some (.string s) := by
  obtain ⟨ad', cap', e, -, -, h3⟩ := h
  injection e with e1 e2 e3
  obtain ⟨g, o, e', c⟩ := h3 i s hs
  exact ⟨g, o, e1.trans e', c⟩

set_option maxRecDepth 100000 in
set_option maxHeartbeats 8000000 in
theorem lread_any (v : Value) (ds : List ByteArray) (w : World) (hG : Glob w) (hv : Sts w v ds) (hl : ds.length ≤ 2000000) (hs : ∀ d ∈ ds, d.size ≤ 2000000) :
    Calls Tryz.prog 8 #[v] w (MsPost w (Ep.readR ds)) := by
  obtain ⟨i0, hi, hz0, hz1, hz2⟩ := info_parts infoMac
  obtain ⟨ad, cap, rfl, h1, h2, -⟩ := id hv
  obtain ⟨n, hn⟩ : ∃ n, n = ds.length := ⟨_, rfl⟩
  rw [← hn] at hv h1 hl ⊢
  have HV := Lib.hid hv
  have Hn := Lib.hid hn
  have HG := Lib.hid hG
  have HS := Lib.hid hs
  have hre : 12 < n ∨ ¬ 12 < n := by omega
  clear hv hn h1 h2 hG hs
  go_enter Tryz.func8, Tryz.ntmps8
  rcases hre with h12 | h12
  · have z1 : (12 : Int) < n := by omega
    have e : Ep.readR ds = none := by unfold Ep.readR; rw [if_pos (by rw [← Hn.out]; exact h12)]
    rw [e]
    go_wp2_with fail
    go_ret2
    exact ⟨Below.refl _ _, rfl⟩
  · have z1 : ¬ (12 : Int) < n := by omega
    have e : Ep.readR ds = Ep.readM 0 ds := by unfold Ep.readR; rw [if_neg (by rw [← Hn.out]; exact h12)]
    rw [e]
    clear e
    go_wp2_with fail
    go_loopw [4, 5] (fun o a wr => ∃ (k : Nat) (acc : List M), a = .int .i64 k ∧ k ≤ n ∧ acc.length = k ∧ MRow wr w.heap.size o acc ∧ Ep.readM 0 ds = (Ep.readM k (ds.drop k)).map (acc ++ ·) ∧ Below w.heap.size w wr) (fun _ a _ => n - (intOf a).toNat)
    case atStart => exact ⟨0, [], rfl, Nat.zero_le _, rfl, ⟨[], World.ownsRow_nil _ _ _ _, rfl⟩, by simp, Below.refl _ _⟩
    case round =>
      obtain ⟨k, acc, rfl, hk, hal, hrow, hrd, hB⟩ := hrel
      by_cases hlt : k < n
      · obtain ⟨d, hd⟩ : ∃ d, ds[k]? = some d := ⟨_, List.getElem?_eq_getElem (by rw [← Hn.out]; exact hlt)⟩
        obtain ⟨g, o, rfl, hc0⟩ := sts_some HV.out hd
        have hgw := lt_of_cell hc0
        have hcell : ∀ X : World, Below w.heap.size w X → X.cell? ⟨g, o + k, none⟩ = some (.string d) := fun X hX => (hX.cell (p := ⟨g, o + k, none⟩) hgw).trans hc0
        have hc := hcell _ hB
        rw [readM_drop hd acc] at hrd
        have hdz := HS.out d (List.mem_of_getElem? hd)
        have HD := Lib.hid hd
        have HRD := Lib.hid hrd
        have HROW := Lib.hid hrow
        have HB := Lib.hid hB
        have hbs := hB.size
        have z2 : (0 : Int) ≤ k := by omega
        have z3 : (k : Int) < n := by omega
        clear hd hrd hrow hB
        go_wp2_with fail
        refine (tokens_any _ d (by omega) _ (HG.out.later HB.out)).mono ?_
        rintro e1 w1 ⟨tv, rfl, htv, hB1⟩
        have hks := htv.ks
        have hlen := Ep.toksAt_len ((k : Int) + 1) d.data.toList
        have hsz : d.data.toList.length = d.size := size_list d
        have KD := Lib.hid (define_any tv (Ep.toksAt ((k : Int) + 1) d.data.toList) w1 hks (fun t ht => by have := Ep.toksAt_short _ _ t ht; unfold maxLen; omega) (by omega))
        have HB1 := Lib.hid (Below.then HB.out hB1)
        have HROW1 : Hid (MRow w1 w.heap.size _ acc) := Lib.hid (by
          obtain ⟨vs, a, b⟩ := HROW.out
          exact ⟨vs, row_heapK a (Kept.of_below hB1 _), b.keep (Kept.of_below hB1 _) (Kept.of_below hB1 _)⟩)
        clear htv hks hlen hB1
        obtain ⟨m, er, hme⟩ : ∃ m er, Ep.defAt k d = (m, er) := ⟨_, _, rfl⟩
        have HRD2 := Lib.hid (hme ▸ HRD.out)
        have KD2 : Hid (Calls Tryz.prog 15 #[tv] w1 (DefPost w1 (m, er))) := Lib.hid (hme ▸ KD.out)
        clear hme
        go_wp2_with fail
        refine KD2.out.mono ?_
        rintro e2 w2 ⟨mv, rfl, hmac, hB2⟩
        have HMAC := Lib.hid hmac
        obtain ⟨pv, bv, rfl, hp, hb⟩ := hmac
        obtain ⟨pa, pn, pc, rfl⟩ := row_slice hp
        obtain ⟨ba, bn, bc, rfl⟩ := row_slice hb
        have HB2 := Lib.hid (Below.then HB1.out hB2)
        have HROW2 : Hid (MRow w2 w.heap.size _ acc) := Lib.hid (by
          obtain ⟨vs, a, b⟩ := HROW1.out
          exact ⟨vs, row_heapK a (Kept.of_below hB2 _), b.keep (Kept.of_below hB2 _) (Kept.of_below hB2 _)⟩)
        obtain ⟨nm, fn, ps, va, body⟩ := m
        dsimp only at *
        clear hp hb hB2
        have hA3 := HB2.out.alloc HB2.out.size (.cells #[.string nm, .bool fn, .slice pa pn pc, .bool va, .slice ba bn bc] 32)
        have hc3 := hcell _ hA3
        clear hc hc0 hA3
        by_cases h0 : er = 0
        · subst h0
          by_cases h200 : d.size ≤ 200
          · have z4 : ¬ (200 : Int) < d.size := by omega
            obtain ⟨vs, hrow, hmcs⟩ := HROW2.out
            have hs2 := HB2.out.size
            rw [hal] at hrow
            have HM := Lib.hid hmcs
            clear hmcs
            go_wp2_with (at_builtin; refine wpList_append_lies _ rfl _ _ 24 rfl w.heap.size 32 i0 _ 5 80 Tryz.underlying24 hi hz0 hz1 hz2 rfl (by decide) _ k vs rfl ((hrow.alloc _).alloc _) ⟨w2.heap.size + 1, 0, none⟩ 1 1 [.string nm, .bool fn, .slice pa pn pc, .bool va, .slice ba bn bc] rfl rfl (World.news_of_block (cs := #[.string nm, .bool fn, .slice pa pn pc, .bool va, .slice ba bn bc]) (t := 32) (fr := (0, 0)) (heap_alloc2_new w2 _ _)) (by simp [Value.oneCell']) (by decide) (by unfold maxLen; omega) (by omega) (by simp; omega) _ rfl ?_; intro gg cap' w4 hown hgrow hat hlt2)
            have hk9 := (Kept.alloc2 9 w2 (.cells #[.string nm, .bool fn, .slice pa pn pc, .bool va, .slice ba bn bc] 32) (.cells #[.string nm, .bool fn, .slice pa pn pc, .bool va, .slice ba bn bc] 32)).trans (row_kept ((hrow.alloc _).alloc _) hgrow (by decide))
            have hkt := (Kept.alloc2 30 w2 (.cells #[.string nm, .bool fn, .slice pa pn pc, .bool va, .slice ba bn bc] 32) (.cells #[.string nm, .bool fn, .slice pa pn pc, .bool va, .slice ba bn bc] 32)).trans (row_kept ((hrow.alloc _).alloc _) hgrow (by decide))
            have hnew : MRow w4 w.heap.size (.slice (some ⟨gg, 0, none⟩) (k + 1) cap') (acc ++ [⟨nm, fn, ps, va, body⟩]) := ⟨_, by rw [List.length_append, hal]; exact hown, (HM.out.keep hk9 hkt).snoc (HMAC.out.keep hk9 hkt)⟩
            have hBn := ((HB2.out.alloc HB2.out.size (.cells #[.string nm, .bool fn, .slice pa pn pc, .bool va, .slice ba bn bc] 32)).alloc (by have := HB2.out.size; simp; omega) (.cells #[.string nm, .bool fn, .slice pa pn pc, .bool va, .slice ba bn bc] 32)).grown hgrow (by have := HB2.out.size; simp; omega) (fun i e => (hrow.lt i e).1)
            have HN := Lib.hid hnew
            have HBN := Lib.hid hBn
            clear hnew hBn hown hgrow hat hk9 hkt
            go_roundw
            case rel =>
              refine ⟨k + 1, acc ++ [⟨nm, fn, ps, va, body⟩], by go_num, by omega, by simp [hal], HN.out, ?_, HBN.out⟩
              rw [HRD2.out, if_pos ⟨rfl, h200⟩]
            case measure => simp [intOf]; omega
          · have z4 : (200 : Int) < d.size := by omega
            have e : Ep.readM 0 ds = none := by rw [HRD2.out, if_neg (by intro h; exact h200 h.2)]
            have E := Lib.hid e
            clear e
            go_wp2_with fail
            go_ret2
            rw [E.out]
            exact ⟨HB2.out.alloc HB2.out.size _, rfl⟩
        · have z4 : (er == 0) = false := by simpa using h0
          have e : Ep.readM 0 ds = none := by rw [HRD2.out, if_neg (by intro h; exact h0 h.1)]
          have E := Lib.hid e
          clear e
          go_wp2_with fail
          go_ret2
          rw [E.out]
          exact ⟨HB2.out.alloc HB2.out.size _, rfl⟩
      · obtain rfl : k = n := by omega
        have he : ds.drop k = [] := List.drop_eq_nil_of_le (by rw [← Hn.out]; exact Nat.le_refl _)
        rw [he] at hrd
        have hv := hrow.val
        have HV2 := Lib.hid hv
        have HRD := Lib.hid hrd
        have HB := Lib.hid hB
        clear hv hrow hrd hB he
        go_wp2_with fail
        go_ret2
        rw [HRD.out]
        refine ⟨HB.out, _, rfl, ?_⟩
        show MsV wr _ (acc ++ [])
        rw [List.append_nil]
        exact HV2.out
end Go.Proofs.YtlepnafgcmeimaaGreatDoor

/- What a round of arguments does to its row; what a plan says of an argument. -/
namespace Go.Proofs.YtlepnafgcmeimaaGreatDoor
open Go.RowKit Go.Shelf
open Ep (HT XS)
open Mx (M)

/-- What a macro's plan says: where to read it. -/
theorem XM.use {w0 W : World} {xb mb : Nat} {kb : Nat → Nat} {ms : List M} {X : XS} {j q : Nat} {m : M} (h : XM w0 W xb mb kb ms X) (hj : ms[j]? = some m) (hj' : Ep.ixOf m.name ms 0 = some j) (hq : Ep.planIx j X.pl 0 = some q) :
    ∃ pb sv ug ucap pv bv, W.heap[kb j]? = some (.cells #[.string m.name, .bool m.fn, pv, .bool m.va, bv, .pointer (some ⟨pb, 0, none⟩)] 85 (0, 0)) ∧ MacV w0 (.agg #[.string m.name, .bool m.fn, pv, .bool m.va, bv]) m ∧
      PlW W w0.heap.size pb q sv (.slice (some ⟨ug, 0, none⟩) (m.ps.length + 1) ucap) (Ep.pieces m) (Ep.pieces m) (m.ps.length + 1) ∧
      W.cell? ⟨kb j, 5, none⟩ = some (.pointer (some ⟨pb, 0, none⟩)) ∧ W.cell? ⟨pb, 0, none⟩ = some (.int .i64 (q : Int)) ∧ W.cell? ⟨pb, 2, none⟩ = some (.slice (some ⟨ug, 0, none⟩) (m.ps.length + 1) ucap) ∧
      ∀ i, i ≤ m.ps.length → W.cell? ⟨ug, i * 2, none⟩ = some (.bool (Ep.uses 4 (Ep.pieces m) i)) ∧ W.cell? ⟨ug, i * 2 + 1, none⟩ = some (.bool (Ep.uses 2 (Ep.pieces m) i)) := by
  obtain ⟨pv, bv, pp, hb, hm, -, hp⟩ := h.kn j m hj hj'
  rcases hp with ⟨e, _⟩ | ⟨i, pb, sv, uv, e, rfl, hpl⟩
  · rw [hq] at e; cases e
  · rw [hq] at e
    injection e with e
    subst e
    obtain ⟨-, -, -, -, -, k5⟩ := box6_cells hb
    obtain ⟨p0, p1, p2, -⟩ := box3_cells hpl.blk
    have hc := fun g => World.ownsRow.cells (g := g) hpl.urow
    rcases id hpl.urow.2 with ⟨_, h0⟩ | ⟨ug, ucap, cur, rfl, -⟩
    · omega
    · refine ⟨pb, sv, ug, ucap, pv, bv, hb, hm, hpl, k5, p0, p2, fun i hi => ?_⟩
      have c0 := hc ug rfl (i * 2) _ (usCells_get (m.ps.length + 1) (Ep.pieces m) (i * 2) (by omega))
      have c1 := hc ug rfl (i * 2 + 1) _ (usCells_get (m.ps.length + 1) (Ep.pieces m) (i * 2 + 1) (by omega))
      rw [add_none, Nat.zero_add] at c0 c1
      rw [if_pos (by omega), show i * 2 / 2 = i by omega] at c0
      rw [if_neg (by omega), show (i * 2 + 1) / 2 = i by omega] at c1
      exact ⟨c0, c1⟩

/-- Within a round. -/
structure Rnd (w0 w wr W : World) (xb mb : Nat) (kb : Nat → Nat) (ms : List M) (X' : XS) (ag k : Nat) (v0 v1 : Value) (q : K) (fl : List HT) : Prop where
  ka : KA ag k wr W
  xm : XM w0 W xb mb kb ms X'
  fr : Fr true w0.heap.size w.heap.size w W
  c : ArgCs W ag k v0 v1 q
  blk : ∃ cs, W.heap[ag]? = some (.cells cs 142 (0, 0))
  hag : w.heap.size ≤ ag
  hw : w0.heap.size ≤ w.heap.size
  h1 : Hs W v1 fl
section
variable {w0 w wr W W' : World} {xb mb : Nat} {kb : Nat → Nat} {ms : List M} {X' X2 : XS} {ag k : Nat} {v0 v1 : Value} {q : K} {fl : List HT}
theorem Rnd.froz (h : Rnd w0 w wr W xb mb kb ms X' ag k v0 v1 q fl) (c : Nat) : W.frozen? ⟨ag, c, none⟩ = false := by obtain ⟨cs, hb⟩ := h.blk; simp [World.frozen?, hb]
theorem Rnd.keep (h : Rnd w0 w wr W xb mb kb ms X' ag k v0 v1 q fl) (hk : KeepA W W') (hx : XM w0 W' xb mb kb ms X2) (hf : Fr true w0.heap.size w.heap.size W W') : Rnd w0 w wr W' xb mb kb ms X2 ag k v0 v1 q fl := by
  obtain ⟨cs, hb⟩ := h.blk
  have hb' := hk _ _ _ _ hb (by decide) (by decide)
  have hc : ∀ c, W'.cell? ⟨ag, c, none⟩ = W.cell? ⟨ag, c, none⟩ := fun c => by rw [cell_block hb', cell_block hb]
  obtain ⟨a0, a1, b0, b1, b2, b3, b4, b5⟩ := h.c
  exact ⟨h.ka.trans (hk.ka ag k), hx, h.fr.trans hf, ⟨(hc _).trans a0, (hc _).trans a1, (hc _).trans b0, (hc _).trans b1, (hc _).trans b2, (hc _).trans b3, (hc _).trans b4, (hc _).trans b5⟩, ⟨cs, hb'⟩, h.hag, h.hw, hk.hs h.h1⟩
theorem Rnd.below (h : Rnd w0 w wr W xb mb kb ms X' ag k v0 v1 q fl) (hb : Below W.heap.size W W') : Rnd w0 w wr W' xb mb kb ms X' ag k v0 v1 q fl :=
  h.keep (KeepA.of_below hb) (h.xm.below hb) (Fr.of_below hb)
theorem Rnd.put (h : Rnd w0 w wr W xb mb kb ms X' ag k v0 v1 q fl) (j : Nat) (hj : j < 8) (u : Value) :
    KA ag k wr (W.setCell ⟨ag, k * 8 + j, none⟩ u) ∧ XM w0 (W.setCell ⟨ag, k * 8 + j, none⟩ u) xb mb kb ms X' ∧ Fr true w0.heap.size w.heap.size w (W.setCell ⟨ag, k * 8 + j, none⟩ u) ∧ (∃ cs, (W.setCell ⟨ag, k * 8 + j, none⟩ u).heap[ag]? = some (.cells cs 142 (0, 0))) ∧ ∀ {v : Value} {l : List HT}, Hs W v l → Hs (W.setCell ⟨ag, k * 8 + j, none⟩ u) v l := by
  obtain ⟨cs, hb⟩ := h.blk
  have ho : Only1 ag W (W.setCell ⟨ag, k * 8 + j, none⟩ u) := fun b hb => heap_setCell_other W ⟨ag, k * 8 + j, none⟩ b u hb
  have hn : w0.heap.size ≤ ag := Nat.le_trans h.hw h.hag
  refine ⟨h.ka.trans (KA.set k j hj u), h.xm.stay (StayX.only1 ho hb (.inr rfl)) (h.xm.bl.setCell hn u), h.fr.only ho h.hag (by rfl) (by rfl) (by rfl) (by simp), ?_, fun hv => (KA.set k j hj u).hs ⟨cs, hb⟩ hv⟩
  obtain ⟨cs', h1, -⟩ := (KA.set (W := W) (ag := ag) k j hj u).own cs hb
  exact ⟨cs', h1⟩
theorem ne_off {a b : Nat} (ag : Nat) (h : a ≠ b) : (⟨ag, a, none⟩ : Addr) ≠ ⟨ag, b, none⟩ := fun e => h (by injection e)
/-- The argument as it is, is laid. -/
theorem Rnd.raw (h : Rnd w0 w wr W xb mb kb ms X' ag k v0 v1 q fl) (u : Value) : Rnd w0 w wr (W.setCell ⟨ag, k * 8, none⟩ u) xb mb kb ms X' ag k u v1 q fl := by
  have hp := h.put 0 (by omega) u
  rw [Nat.add_zero] at hp
  obtain ⟨p1, p2, p3, p4, p5⟩ := hp
  obtain ⟨a0, a1, b0, b1, b2, b3, b4, b5⟩ := h.c
  have ho : ∀ c, k * 8 ≠ c → (W.setCell ⟨ag, k * 8, none⟩ u).cell? ⟨ag, c, none⟩ = W.cell? ⟨ag, c, none⟩ := fun c hc => World.cell?_setCell_other _ _ _ _ (ne_off ag hc)
  exact ⟨p1, p2, p3, ⟨World.cell?_setCell_same _ _ _ a0, (ho _ (by omega)).trans a1, (ho _ (by omega)).trans b0, (ho _ (by omega)).trans b1, (ho _ (by omega)).trans b2, (ho _ (by omega)).trans b3, (ho _ (by omega)).trans b4, (ho _ (by omega)).trans b5⟩, p4, h.hag, h.hw, p5 h.h1⟩
/-- What it came to is laid. -/
theorem Rnd.full (h : Rnd w0 w wr W xb mb kb ms X' ag k v0 v1 q fl) (u : Value) {fl' : List HT} (hu : Hs W u fl') : Rnd w0 w wr (W.setCell ⟨ag, k * 8 + 1, none⟩ u) xb mb kb ms X' ag k v0 u q fl' := by
  obtain ⟨p1, p2, p3, p4, p5⟩ := h.put 1 (by omega) u
  obtain ⟨a0, a1, b0, b1, b2, b3, b4, b5⟩ := h.c
  have ho : ∀ c, k * 8 + 1 ≠ c → (W.setCell ⟨ag, k * 8 + 1, none⟩ u).cell? ⟨ag, c, none⟩ = W.cell? ⟨ag, c, none⟩ := fun c hc => World.cell?_setCell_other _ _ _ _ (ne_off ag hc)
  exact ⟨p1, p2, p3, ⟨(ho _ (by omega)).trans a0, World.cell?_setCell_same _ _ _ a1, (ho _ (by omega)).trans b0, (ho _ (by omega)).trans b1, (ho _ (by omega)).trans b2, (ho _ (by omega)).trans b3, (ho _ (by omega)).trans b4, (ho _ (by omega)).trans b5⟩, p4, h.hag, h.hw, p5 hu⟩
theorem Rnd.cellq (h : Rnd w0 w wr W xb mb kb ms X' ag k v0 v1 q fl) (j : Nat) (hj : 2 ≤ j) (hj8 : j < 8) : ∃ u, W.cell? ⟨ag, k * 8 + j, none⟩ = some u := by
  obtain ⟨a0, a1, b0, b1, b2, b3, b4, b5⟩ := h.c
  rcases (by omega : j = 2 ∨ j = 3 ∨ j = 4 ∨ j = 5 ∨ j = 6 ∨ j = 7) with rfl | rfl | rfl | rfl | rfl | rfl
  · exact ⟨_, b0⟩
  · exact ⟨_, b1⟩
  · exact ⟨_, b2⟩
  · exact ⟨_, b3⟩
  · exact ⟨_, b4⟩
  · exact ⟨_, b5⟩
/-- Its string is laid. -/
theorem Rnd.quoted (h : Rnd w0 w wr W xb mb kb ms X' ag k v0 v1 q fl) (t : K) :
    Rnd w0 w wr ((((((W.setCell ⟨ag, k * 8 + 2, none⟩ (.int .i64 t.kind)).setCell ⟨ag, k * 8 + 2 + 1, none⟩ (.string t.text)).setCell ⟨ag, k * 8 + 2 + 2, none⟩ (.int .i64 t.file)).setCell ⟨ag, k * 8 + 2 + 3, none⟩ (.int .i64 t.fr)).setCell ⟨ag, k * 8 + 2 + 4, none⟩ (.int .i64 t.en)).setCell ⟨ag, k * 8 + 2 + 5, none⟩ (.bool t.bl)) xb mb kb ms X' ag k v0 v1 t fl := by
  have one : ∀ {W : World} {q : K} (j : Nat) (u : Value) (t : K), 2 ≤ j → j < 8 → Rnd w0 w wr W xb mb kb ms X' ag k v0 v1 q fl → ArgCs (W.setCell ⟨ag, k * 8 + j, none⟩ u) ag k v0 v1 t → Rnd w0 w wr (W.setCell ⟨ag, k * 8 + j, none⟩ u) xb mb kb ms X' ag k v0 v1 t fl := fun j u t h2 h8 h hc => by
    obtain ⟨p1, p2, p3, p4, p5⟩ := h.put j h8 u
    exact ⟨p1, p2, p3, hc, p4, h.hag, h.hw, p5 h.h1⟩
  have cs : ∀ {W : World} {q : K} (j : Nat) (u : Value) (t : K), 2 ≤ j → j < 8 → Rnd w0 w wr W xb mb kb ms X' ag k v0 v1 q fl →
      (∀ i, 2 ≤ i → i < 8 → (if i = j then some u else W.cell? ⟨ag, k * 8 + i, none⟩) = [(.int .i64 t.kind : Value), .string t.text, .int .i64 t.file, .int .i64 t.fr, .int .i64 t.en, .bool t.bl][i - 2]?) → ArgCs (W.setCell ⟨ag, k * 8 + j, none⟩ u) ag k v0 v1 t := fun {W q} j u t h2 h8 h hc => by
    obtain ⟨a0, a1, -⟩ := h.c
    have ho : ∀ c, k * 8 + j ≠ c → (W.setCell ⟨ag, k * 8 + j, none⟩ u).cell? ⟨ag, c, none⟩ = W.cell? ⟨ag, c, none⟩ := fun c hc => World.cell?_setCell_other _ _ _ _ (ne_off ag hc)
    obtain ⟨z, hz⟩ := h.cellq j h2 h8
    have key : ∀ i, 2 ≤ i → i < 8 → (W.setCell ⟨ag, k * 8 + j, none⟩ u).cell? ⟨ag, k * 8 + i, none⟩ = [(.int .i64 t.kind : Value), .string t.text, .int .i64 t.file, .int .i64 t.fr, .int .i64 t.en, .bool t.bl][i - 2]? := fun i i2 i8 => by
      rw [← hc i i2 i8]
      by_cases e : i = j
      · rw [if_pos e, e]; exact World.cell?_setCell_same _ _ _ hz
      · rw [if_neg e]; exact ho _ (by omega)
    exact ⟨(ho _ (by omega)).trans a0, (ho _ (by omega)).trans a1, key 2 (by omega) (by omega), key 3 (by omega) (by omega), key 4 (by omega) (by omega), key 5 (by omega) (by omega), key 6 (by omega) (by omega), key 7 (by omega) (by omega)⟩
  have get : ∀ {W : World} {t : K} {v0 v1 : Value}, ArgCs W ag k v0 v1 t → ∀ i, 2 ≤ i → i < 8 → W.cell? ⟨ag, k * 8 + i, none⟩ = [(.int .i64 t.kind : Value), .string t.text, .int .i64 t.file, .int .i64 t.fr, .int .i64 t.en, .bool t.bl][i - 2]? := fun {W t _ _} ha i i2 i8 => by
    obtain ⟨-, -, b0, b1, b2, b3, b4, b5⟩ := ha
    rcases (by omega : i = 2 ∨ i = 3 ∨ i = 4 ∨ i = 5 ∨ i = 6 ∨ i = 7) with rfl | rfl | rfl | rfl | rfl | rfl
    · exact b0
    · exact b1
    · exact b2
    · exact b3
    · exact b4
    · exact b5
  have step : ∀ {W : World} {q : K} (j : Nat) (u : Value) (t : K), 2 ≤ j → j < 8 → Rnd w0 w wr W xb mb kb ms X' ag k v0 v1 q fl → [(.int .i64 t.kind : Value), .string t.text, .int .i64 t.file, .int .i64 t.fr, .int .i64 t.en, .bool t.bl] = [(.int .i64 q.kind : Value), .string q.text, .int .i64 q.file, .int .i64 q.fr, .int .i64 q.en, .bool q.bl].set (j - 2) u → Rnd w0 w wr (W.setCell ⟨ag, k * 8 + j, none⟩ u) xb mb kb ms X' ag k v0 v1 t fl := fun {W q} j u t h2 h8 h he => by
    refine one j u t h2 h8 h (cs j u t h2 h8 h fun i i2 i8 => ?_)
    rw [he]
    by_cases e : i = j
    · rw [if_pos e, e, List.getElem?_set_self (by simp; omega)]
    · rw [if_neg e, List.getElem?_set_ne (by omega)]
      exact get h.c i i2 i8
  obtain ⟨kd, tx, f, fr, en, bl⟩ := t
  obtain ⟨kd', tx', f', fr', en', bl'⟩ := q
  have s1 := step 2 (.int .i64 kd) ⟨kd, tx', f', fr', en', bl'⟩ (by omega) (by omega) h rfl
  have s2 := step 3 (.string tx) ⟨kd, tx, f', fr', en', bl'⟩ (by omega) (by omega) s1 rfl
  have s3 := step 4 (.int .i64 f) ⟨kd, tx, f, fr', en', bl'⟩ (by omega) (by omega) s2 rfl
  have s4 := step 5 (.int .i64 fr) ⟨kd, tx, f, fr, en', bl'⟩ (by omega) (by omega) s3 rfl
  have s5 := step 6 (.int .i64 en) ⟨kd, tx, f, fr, en, bl'⟩ (by omega) (by omega) s4 rfl
  exact step 7 (.bool bl) ⟨kd, tx, f, fr, en, bl⟩ (by omega) (by omega) s5 rfl
end
theorem AgL.round {w0 w W : World} {xb mb : Nat} {kb : Nat → Nat} {ms : List M} {X X1 : XS} {rad : Option Addr} {raws : List (List HT)} {ag n k : Nat} {ags : List Ep.Arg} (h : AgL w0 w W xb mb kb ms X X1 rad raws ag n k ags) (hk : k < n) (hw : w0.heap.size ≤ w.heap.size) :
    Rnd w0 w W W xb mb kb ms X1 ag k (.slice none 0 0) (.slice none 0 0) Ep.zeroK [] :=
  ⟨⟨fun _ _ _ _ _ h _ _ => h, fun cs h => ⟨cs, h, fun _ _ => rfl⟩⟩, h.xm, h.fr, h.zero k (Nat.le_refl _) hk, h.blk, h.hag, hw, Hs.nil _ _ _ (Nat.zero_le _)⟩
end Go.Proofs.YtlepnafgcmeimaaGreatDoor

/- What is proved: what arguments tells. -/
namespace Go.Proofs.YtlepnafgcmeimaaGreatDoor
open Go.RowKit Go.Shelf
open Ep (HT XS)
open Mx (M)

def Ep.joinA (ags : List Ep.Arg) : Except Int (XS × List Ep.Arg) → Except Int (XS × List Ep.Arg)
  | .ok (X, more) => .ok (X, ags ++ more)
  | .error e => .error e
theorem Ep.joinA_snoc (ags : List Ep.Arg) (a : Ep.Arg) (X : XS) (more : List Ep.Arg) : Ep.joinA ags (.ok (X, a :: more)) = Ep.joinA (ags ++ [a]) (.ok (X, more)) := by simp [Ep.joinA]
theorem Ep.joinA_err (ags : List Ep.Arg) (a : Ep.Arg) (e : Int) : Ep.joinA ags (.error e) = Ep.joinA (ags ++ [a]) (.error e) := rfl
/-- A round: what the rest is then. -/
theorem Ep.args_step {run : XS → List HT → Ep.R (XS × List HT)} {P : List Ep.Pc} {k : Nat} {X1 X2 : XS} {x full : List HT} {rest : List (List HT)} {r' : Except Int (XS × List Ep.Arg)} {qt : K} (ags : List Ep.Arg)
    (h : Ep.argsOf run P k X1 (x :: rest) = some r') (h4 : (if Ep.uses 4 P k then run X1 x else some (.ok (X1, []))) = some (.ok (X2, full))) (h2 : (if Ep.uses 2 P k then Ep.strOf x else some Ep.zeroK) = some qt) :
    ∃ r'', Ep.argsOf run P (k + 1) X2 rest = some r'' ∧ Ep.joinA ags r' = Ep.joinA (ags ++ [⟨x, full, qt⟩]) r'' := by
  rw [Ep.argsOf, h4] at h
  dsimp only at h
  rw [h2] at h
  dsimp only at h
  cases ha : Ep.argsOf run P (k + 1) X2 rest with
  | none => rw [ha] at h; cases h
  | some r'' =>
    rw [ha] at h
    refine ⟨r'', rfl, ?_⟩
    cases r'' with
    | error e => injection h with h; subst h; rfl
    | ok y =>
      obtain ⟨Y, more⟩ := y
      injection h with h
      subst h
      exact Ep.joinA_snoc _ _ _ _
theorem Ep.args_str {run : XS → List HT → Ep.R (XS × List HT)} {P : List Ep.Pc} {k : Nat} {X1 X2 : XS} {x full : List HT} {rest : List (List HT)} {r' : Except Int (XS × List Ep.Arg)}
    (h : Ep.argsOf run P k X1 (x :: rest) = some r') (h4 : (if Ep.uses 4 P k then run X1 x else some (.ok (X1, []))) = some (.ok (X2, full))) (h2 : Ep.uses 2 P k = true) : ∃ qt, Ep.strOf x = some qt := by
  rw [Ep.argsOf, h4] at h
  dsimp only at h
  rw [h2, if_pos rfl] at h
  cases hs : Ep.strOf x with
  | none => rw [hs] at h; cases h
  | some qt => exact ⟨qt, rfl⟩
theorem Ep.args_run {run : XS → List HT → Ep.R (XS × List HT)} {P : List Ep.Pc} {k : Nat} {X1 : XS} {x : List HT} {rest : List (List HT)} {r' : Except Int (XS × List Ep.Arg)}
    (h : Ep.argsOf run P k X1 (x :: rest) = some r') (h4 : Ep.uses 4 P k = true) : ∃ r1, run X1 x = some r1 ∧ ∀ e, r1 = .error e → r' = .error e := by
  rw [Ep.argsOf, h4, if_pos rfl] at h
  cases hs : run X1 x with
  | none => rw [hs] at h; cases h
  | some r1 =>
    refine ⟨r1, rfl, fun e he => ?_⟩
    subst he
    rw [hs] at h
    injection h with h
    exact h.symm
theorem Ep.strOf_some {x : List HT} {qt : K} (h : Ep.strOf x = some qt) : (∀ t ∈ Ep.bareH x, t.text.size ≤ 1000000) ∧ (Gl.txt true false false (Ep.bareH x)).length ≤ 1000000 ∧ kAgg qt = strTok (34 :: (Gl.txt true false false (Ep.bareH x) ++ [34])) := by
  unfold Ep.strOf at h
  split at h
  · rename_i hc
    simp only [Bool.and_eq_true, List.all_eq_true, decide_eq_true_eq] at hc
    injection h with h
    subst h
    refine ⟨fun t ht => ?_, hc.2, rfl⟩
    obtain ⟨y, hy, rfl⟩ := List.mem_map.1 ht
    exact hc.1 y hy
  · cases h

set_option maxRecDepth 100000 in
set_option maxHeartbeats 16000000 in
theorem eargs_any (w0 : World) (xb mb : Nat) (kb : Nat → Nat) (ms : List M) (run : XS → List HT → Ep.R (XS × List HT)) (hRUN : RunAny w0 xb mb kb ms run) (hG : Glob w0) (X : XS) (j q : Nat) (m : M) (iv cv : Value) (ins : List HT) (cs : List Nat) (w : World)
    (h : XM w0 w xb mb kb ms X) (hj : ms[j]? = some m) (hj' : Ep.ixOf m.name ms 0 = some j) (hq : Ep.planIx j X.pl 0 = some q) (hfn : m.fn = true → Hs w iv ins ∧ (∃ B, IRow w B cv cs) ∧ InvOk ins cs) (hps : m.ps.length ≤ 100000) (hib : ins.length ≤ 1000000)
    (r : Except Int (XS × List Ep.Arg)) (hr : (match Ep.shared m ins cs with | .error e => some (.error e) | .ok raws => Ep.argsOf run (Ep.pieces m) 0 X raws) = some r) :
    Calls Tryz.prog 63 #[.pointer (some ⟨xb, 0, none⟩), .pointer (some ⟨kb j, 0, none⟩), iv, cv] w (ArgsPost w0 w xb mb kb ms X r) := by
  obtain ⟨i0, hi, hz0, hz1, hz2⟩ := info_parts infoArg
  have hw := h.bl.size
  obtain ⟨pb, sv, ug, ucap, pv, bv, hkb, hmv, -⟩ := h.use hj hj' hq
  have KSH : Calls Tryz.prog 79 #[.pointer (some ⟨kb j, 0, none⟩), iv, cv] w (SharedPost w (Ep.shared m ins cs)) := by
    cases hf : m.fn with
    | false => exact eshared_plain (kb j) m pv bv _ iv cv ins cs w hkb hf
    | true =>
      obtain ⟨f1, f2, f3⟩ := hfn hf
      obtain ⟨pv', bv', e, ⟨ap, cp, e2, -⟩, -⟩ := hmv
      simp only [Value.agg.injEq] at e
      simp at e
      exact eshared_fn (kb j) m pv bv _ iv cv ins cs w hkb hf ⟨ap, cp, e.1.trans e2⟩ f1 f2 f3 (by omega)
  have KSH := Lib.hid KSH
  clear hfn hkb hmv
  cases hs : Ep.shared m ins cs with
  | error k =>
    rw [hs] at hr
    injection hr with hr
    subst hr
    have KSH := Lib.hid (hs ▸ KSH.out)
    clear hs
    go_enter Tryz.func63, Tryz.ntmps63
    go_wp2_with fail
    refine KSH.out.mono ?_
    rintro e1 w1 ⟨rfl, hk0, hb1⟩
    have HB1 := Lib.hid hb1
    clear hb1
    go_wp2_with fail
    go_ret2
    exact ⟨Fr.of_below HB1.out, rfl, hk0⟩
  | ok raws =>
    rw [hs] at hr
    dsimp only at hr
    have KSH := Lib.hid (hs ▸ KSH.out)
    have hsome := Ep.shared_some hs
    have hn1 : raws.length ≤ m.ps.length + 1 := by
      rw [hsome.1]
      split
      · split <;> omega
      · omega
    have HLEN := Lib.hid hsome.2
    have HX := Lib.hid h
    have HR := Lib.hid hr
    have HRUN := Lib.hid hRUN
    have HG := Lib.hid hG
    obtain ⟨n, hn⟩ : ∃ n, n = raws.length := ⟨_, rfl⟩
    rw [← hn] at hn1
    have HN := Lib.hid hn
    have HJ := Lib.hid (And.intro hj (And.intro hj' hq))
    clear hs hsome h hr hRUN hG hn hj hj' hq
    go_enter Tryz.func63, Tryz.ntmps63
    go_wp2_with fail
    refine KSH.out.mono ?_
    rintro e1 w1 ⟨⟨v, vs, rfl, hrow⟩, hb1⟩
    obtain ⟨rad, rcap, rfl⟩ : ∃ ad cap, v = .slice ad n cap := by
      rcases hrow.1.2 with ⟨h', h0⟩ | ⟨g, cap, cur, h', _⟩
      · exact ⟨none, 0, by rw [h', HN.out, h0]⟩
      · exact ⟨_, cap, by rw [h', HN.out]⟩
    have hraw : ∀ (i : Nat) (x : List HT), raws[i]? = some x → ∃ rg cs u, rad = some ⟨rg, 0, none⟩ ∧ w1.heap[rg]? = some (.cells cs 54 (0, 0)) ∧ cs[i]? = some u ∧ Hs w1 u x := fun i x hx => by
      obtain ⟨u, h1, h2⟩ := hrow.2.2 i x hx
      have hi := (List.getElem?_eq_some_iff.1 hx).1
      have hc := fun g => hrow.1.cells (g := g)
      rcases hrow.1.2 with ⟨_, h0⟩ | ⟨g, cap, cur, h', _, hb, _⟩
      · omega
      · injection h' with e1 e2 e3
        have hcc := hc g (by rw [e1]; rfl) i u h1
        rw [add_none, Nat.zero_add, cell_block hb] at hcc
        exact ⟨g, cur, u, e1, hb, hcc, h2⟩
    have HRAW := Lib.hid hraw
    have HB1 := Lib.hid hb1
    have HX1 := Lib.hid (HX.out.below hb1)
    clear hraw hrow hb1
    go_wp2_with (at_make; refine wpList_make_full _ rfl _ _ 123 rfl w1.heap.size 142 i0 _ 8 Tryz.underlying123 hi hz0 hz1 .i64 .i64 _ _ n rfl rfl rfl rfl (by rw [hz2]; omega) (by unfold maxLen; omega) (Nat.le_refl _) ?_; intro w2 hrow2 hg2)
    have hb2 : Below w1.heap.size w1 w2 := (Below.refl _ w1).grown hg2 (Nat.le_refl _) (fun j e => by cases e)
    obtain ⟨hab, haz⟩ := argRow_zero hrow2
    have hL : AgL w0 w w2 xb mb kb ms X X rad raws w1.heap.size n 0 [] := ⟨HX1.out.below hb2, Ep.Le.refl _, fun i x hx => by
        obtain ⟨rg, cs, u, a1, a2, a3, a4⟩ := HRAW.out i x hx
        exact ⟨rg, cs, u, a1, (hb2.block _ (lt_of_heap a2)).trans a2, a3, a4.below hb2⟩, hab, HB1.out.size, fun i a ha => by simp at ha, rfl, fun i _ hi => haz i hi, Fr.of_below (Below.then HB1.out hb2)⟩
    have HL := Lib.hid hL
    obtain ⟨ag, hag⟩ : ∃ ag, ag = w1.heap.size := ⟨_, rfl⟩
    rw [← hag] at HL ⊢
    clear hb2 hab haz hL hrow2 hg2 hag hi hz0 hz1 hz2
    go_loopw [30] (fun a wr => ∃ (k : Nat) (X1 : XS) (ags : List Ep.Arg) (r' : Except Int (XS × List Ep.Arg)), a = .int .i64 k ∧ k ≤ n ∧ AgL w0 w wr xb mb kb ms X X1 rad raws ag n k ags ∧ Ep.argsOf run (Ep.pieces m) k X1 (raws.drop k) = some r' ∧ r = Ep.joinA ags r' ∧ (∀ a ∈ ags, a.raw.length ≤ 1000000 ∧ a.full.length ≤ 1000000)) (fun a _ => n - (intOf a).toNat)
    case atStart => exact ⟨0, X, [], r, rfl, Nat.zero_le _, HL.out, HR.out, by cases r with | error e => rfl | ok y => rfl, fun a ha => by cases ha⟩
    case round =>
      obtain ⟨k, X1, ags, r', rfl, hk, hA, hao, hjoin, hbd⟩ := hrel
      by_cases hlt : k < n
      · have hlt' : k < raws.length := by rw [← HN.out]; exact hlt
        obtain ⟨x, hx⟩ : ∃ x, raws[k]? = some x := ⟨_, List.getElem?_eq_getElem hlt'⟩
        have hd : raws.drop k = x :: raws.drop (k + 1) := by rw [List.drop_eq_getElem_cons hlt', (List.getElem?_eq_some_iff.1 hx).2]
        have hxl : x.length ≤ 1000000 := Nat.le_trans (HLEN.out x (List.mem_of_getElem? hx)) hib
        rw [hd] at hao
        obtain ⟨rg, rcs, u, hrad, hrb, hru, hxu⟩ := hA.raw k x hx
        have hcu : wr.cell? ⟨rg, k, none⟩ = some u := (cell_block hrb k).trans hru
        obtain ⟨xad, xcap, rfl, -, -⟩ := hxu.form
        have hR0 := hA.round hlt hw
        have hR1 := hR0.raw (.slice xad x.length xcap)
        have hxu1 := hR1.ka.hs hA.blk hxu
        have a0 := hR0.c.1
        have fz := hR0.froz (k * 8)
        obtain ⟨hj1, hj2, hj3⟩ := HJ.out
        obtain ⟨pb, sv, ug, ucap, pv, bv, -, -, -, k5, p0, p2, hus⟩ := hR1.xm.use hj1 hj2 (hA.le.pl j q hj3)
        obtain ⟨u4, u2⟩ := hus k (by omega)
        obtain ⟨U4, hU4⟩ : ∃ b, b = Ep.uses 4 (Ep.pieces m) k := ⟨_, rfl⟩
        obtain ⟨U2, hU2⟩ : ∃ b, b = Ep.uses 2 (Ep.pieces m) k := ⟨_, rfl⟩
        rw [← hU4] at u4
        rw [← hU2] at u2
        have z1 : (0 : Int) ≤ k := by omega
        have z2 : (k : Int) < n := by omega
        have z3 : (k : Int) < m.ps.length + 1 := by omega
        have HA := Lib.hid hA
        have HR1 := Lib.hid hR1
        have HXU := Lib.hid hxu1
        have HXR := Lib.hid hxu
        have HAO := Lib.hid hao
        have HJOIN := Lib.hid hjoin
        have HBD := Lib.hid hbd
        have HU4 := Lib.hid hU4
        have HU2 := Lib.hid hU2
        subst hrad
        clear hA hR0 hR1 hxu hxu1 hao hjoin hbd hU4 hU2 hrb hru hx hd hus hj1 hj2 hj3 hlt'
        cases U4 with
        | false =>
          cases U2 with
          | false =>
            go_wp2_with fail
            obtain ⟨r'', hr1, hr2⟩ := Ep.args_step (qt := Ep.zeroK) ags HAO.out (by rw [← HU4.out]; rfl) (by rw [← HU2.out]; rfl)
            go_roundw
            case rel =>
              exact ⟨k + 1, X1, ags ++ [⟨x, [], Ep.zeroK⟩], r'', by go_num, by omega, HA.out.step HR1.out.ka HR1.out.xm (Ep.Le.refl _) ⟨x, [], Ep.zeroK⟩ HR1.out.c HXU.out HR1.out.h1 HR1.out.fr, hr1, HJOIN.out.trans hr2, fun a ha => by
                rcases List.mem_append.1 ha with ha | ha
                · exact HBD.out a ha
                · rw [List.mem_singleton.1 ha]; exact ⟨hxl, Nat.zero_le _⟩⟩
            case measure => simp [intOf]; omega
          | true =>
            obtain ⟨qt, hqt⟩ := Ep.args_str HAO.out (by rw [← HU4.out]; rfl) HU2.out.symm
            obtain ⟨r'', hr1, hr2⟩ := Ep.args_step (qt := qt) ags HAO.out (by rw [← HU4.out]; rfl) (by rw [← HU2.out, if_pos rfl]; exact hqt)
            obtain ⟨s1, s2, s3⟩ := Ep.strOf_some hqt
            have KB := Lib.hid (ebare_any _ x _ HXU.out hxl)
            have HS1 := Lib.hid s1
            have HS3 := Lib.hid s3
            have HR1' := Lib.hid hr1
            have HR2' := Lib.hid hr2
            clear s1 s3 hr1 hr2 hqt
            go_wp2_with fail
            refine KB.out.mono ?_
            rintro e5 w5 ⟨bu, rfl, hbrow, hb5⟩
            have hks : Ks w5 bu (Ep.bareH x) := Ks.of_row (by rw [show x.length = (Ep.bareH x).length by simp [Ep.bareH]] at hbrow; exact hbrow)
            have KG := Lib.hid (gstring_any (Ep.bareH x) bu w5 (HG.out.below ((HR1.out.below hb5).xm.bl) HG.out.pos) hks (by simp [Ep.bareH]; omega) (fun t ht => Nat.le_trans (HS1.out t ht) (by omega)) (by omega))
            have HR5 := Lib.hid (HR1.out.below hb5)
            have HX5 := Lib.hid (HXU.out.below hb5)
            clear hbrow hb5 hks
            go_wp2_with fail
            refine KG.out.mono ?_
            rintro e6 w6 ⟨rfl, hb6⟩
            have hR6 := HR5.out.below hb6
            have hX6 := HX5.out.below hb6
            have hR7 := hR6.quoted qt
            obtain ⟨-, -, b0, b1, b2, b3, b4, b5⟩ := hR6.c
            have fz6 := hR6.froz
            rw [← HS3.out]
            have hX7 : Hs _ _ x := hR7.ka.hs HA.out.blk (show Hs wr (.slice xad x.length xcap) x from HXR.out)
            have HR7 := Lib.hid hR7
            have HX7 := Lib.hid hX7
            clear hR6 hX6 hR7 hX7 hb6 HR5 HX5
            unfold kAgg
            obtain ⟨kd, tx, f, fr, en, bl⟩ := qt
            dsimp only at *
            go_wp2_with fail
            go_roundw
            case rel =>
              exact ⟨k + 1, X1, ags ++ [⟨x, [], ⟨kd, tx, f, fr, en, bl⟩⟩], r'', by go_num, by omega, HA.out.step HR7.out.ka HR7.out.xm (Ep.Le.refl _) ⟨x, [], ⟨kd, tx, f, fr, en, bl⟩⟩ HR7.out.c HX7.out HR7.out.h1 HR7.out.fr, HR1'.out, HJOIN.out.trans HR2'.out, fun a ha => by
                rcases List.mem_append.1 ha with ha | ha
                · exact HBD.out a ha
                · rw [List.mem_singleton.1 ha]; exact ⟨hxl, Nat.zero_le _⟩⟩
            case measure => simp [intOf]; omega
        | true =>
          obtain ⟨r1, hr1, hre⟩ := Ep.args_run HAO.out HU4.out.symm
          have KR := Lib.hid (HRUN.out X1 x _ _ r1 HR1.out.xm HXU.out hxl hr1)
          have HRE := Lib.hid (And.intro hr1 hre)
          clear hr1 hre
          go_wp2_with fail
          refine KR.out.mono ?_
          rintro e3 w3 ⟨hf3, hrp⟩
          cases r1 with
          | error ek =>
            obtain ⟨rfl, hk0⟩ := hrp
            have hR3c := HR1.out.c
            have hkeep := KeepA.of_fr hf3
            obtain ⟨acs, hab⟩ := HR1.out.blk
            have hab3 := hkeep _ _ _ _ hab (by decide) (by decide)
            have a1 : w3.cell? ⟨ag, k * 8 + 1, none⟩ = some (.slice none 0 0) := by rw [cell_block hab3, ← cell_block hab]; exact hR3c.2.1
            have fz1 : w3.frozen? ⟨ag, k * 8 + 1, none⟩ = false := by simp [World.frozen?, hab3]
            have hR3f : Fr true w0.heap.size w.heap.size w w3 := HR1.out.fr.trans (hf3.le (by have := HR1.out.fr.size; exact this))
            have hfin : ArgsPost w0 w xb mb kb ms X r (.returned (.tuple #[.slice none 0 0, .int .i64 ek])) (w3.setCell ⟨ag, k * 8 + 1, none⟩ (.slice none 0 0)) := by
              rw [HJOIN.out, HRE.out.2 ek rfl]
              exact ⟨hR3f.only (fun b hb => heap_setCell_other w3 ⟨ag, k * 8 + 1, none⟩ b _ hb) HR1.out.hag rfl rfl rfl (by simp), rfl, hk0⟩
            have HF := Lib.hid hfin
            have q0 : ¬ (ek = 0) := hk0
            clear hR3c hkeep hab hab3 hR3f hfin hf3 a0 fz k5 p0 p2 u4 u2
            go_wp2_with fail
            go_ret2
            exact HF.out
          | ok y =>
            obtain ⟨X2, full⟩ := y
            obtain ⟨⟨v3, rfl, hs3⟩, hfl, hx3, hle3⟩ := hrp
            have hR3 := HR1.out.keep (KeepA.of_fr hf3) hx3 (hf3.le (by have := HR1.out.fr.size; exact this))
            have hxu3 := (KeepA.of_fr hf3).hs HXU.out
            have a1 := hR3.c.2.1
            have fz1 := hR3.froz (k * 8 + 1)
            obtain ⟨fad, fcap, rfl, -, -⟩ := hs3.form
            have hR4 := hR3.full (.slice fad full.length fcap) hs3
            clear k5 p0 p2 u4 u2 a0 fz
            obtain ⟨hj1, hj2, hj3⟩ := HJ.out
            obtain ⟨pb2, sv2, ug2, ucap2, pv2, bv2, -, -, -, k5, p0, p2, hus⟩ := hR4.xm.use hj1 hj2 ((HA.out.le.trans hle3).pl j q hj3)
            obtain ⟨-, u2⟩ := hus k (by omega)
            rw [← HU2.out] at u2
            have hxu4 := hR4.ka.hs HA.out.blk HXR.out
            have HR4 := Lib.hid hR4
            have HXU4 := Lib.hid hxu4
            have HLE := Lib.hid hle3
            clear hf3 hs3 hx3 hle3 hR3 hxu3 hR4 hxu4 hus hj1 hj2 hj3
            cases U2 with
            | false =>
              go_wp2_with fail
              obtain ⟨r'', hr1, hr2⟩ := Ep.args_step (qt := Ep.zeroK) ags HAO.out (by rw [← HU4.out, if_pos rfl]; exact HRE.out.1) (by rw [← HU2.out]; rfl)
              go_roundw
              case rel =>
                exact ⟨k + 1, X2, ags ++ [⟨x, full, Ep.zeroK⟩], r'', by go_num, by omega, HA.out.step HR4.out.ka HR4.out.xm HLE.out ⟨x, full, Ep.zeroK⟩ HR4.out.c HXU4.out HR4.out.h1 HR4.out.fr, hr1, HJOIN.out.trans hr2, fun a ha => by
                  rcases List.mem_append.1 ha with ha | ha
                  · exact HBD.out a ha
                  · rw [List.mem_singleton.1 ha]; exact ⟨hxl, Nat.le_trans hfl (by omega)⟩⟩
              case measure => simp [intOf]; omega
            | true =>
              obtain ⟨qt, hqt⟩ := Ep.args_str HAO.out (by rw [← HU4.out, if_pos rfl]; exact HRE.out.1) HU2.out.symm
              obtain ⟨r'', hr1, hr2⟩ := Ep.args_step (qt := qt) ags HAO.out (by rw [← HU4.out, if_pos rfl]; exact HRE.out.1) (by rw [← HU2.out, if_pos rfl]; exact hqt)
              obtain ⟨s1, s2, s3⟩ := Ep.strOf_some hqt
              have KB := Lib.hid (ebare_any _ x _ HXU4.out hxl)
              have HS1 := Lib.hid s1
              have HS3 := Lib.hid s3
              have HR1' := Lib.hid hr1
              have HR2' := Lib.hid hr2
              clear s1 s3 hr1 hr2 hqt
              go_wp2_with fail
              refine KB.out.mono ?_
              rintro e5 w5 ⟨bu, rfl, hbrow, hb5⟩
              have hks : Ks w5 bu (Ep.bareH x) := Ks.of_row (by rw [show x.length = (Ep.bareH x).length by simp [Ep.bareH]] at hbrow; exact hbrow)
              have KG := Lib.hid (gstring_any (Ep.bareH x) bu w5 (HG.out.below ((HR4.out.below hb5).xm.bl) HG.out.pos) hks (by simp [Ep.bareH]; omega) (fun t ht => Nat.le_trans (HS1.out t ht) (by omega)) (by omega))
              have HR5 := Lib.hid (HR4.out.below hb5)
              have HX5 := Lib.hid (HXU4.out.below hb5)
              clear hbrow hb5 hks
              go_wp2_with fail
              refine KG.out.mono ?_
              rintro e6 w6 ⟨rfl, hb6⟩
              have hR6 := HR5.out.below hb6
              have hX6 := HX5.out.below hb6
              have hR7 := hR6.quoted qt
              obtain ⟨-, -, b0, b1, b2, b3, b4, b5⟩ := hR6.c
              have fz6 := hR6.froz
              rw [← HS3.out]
              have hX7 : Hs _ _ x := hR7.ka.hs HA.out.blk (show Hs wr (.slice xad x.length xcap) x from HXR.out)
              have HR7 := Lib.hid hR7
              have HX7 := Lib.hid hX7
              clear hR6 hX6 hR7 hX7 hb6 HR5 HX5
              unfold kAgg
              obtain ⟨kd, tx, f, fr, en, bl⟩ := qt
              dsimp only at *
              go_wp2_with fail
              go_roundw
              case rel =>
                exact ⟨k + 1, X2, ags ++ [⟨x, full, ⟨kd, tx, f, fr, en, bl⟩⟩], r'', by go_num, by omega, HA.out.step HR7.out.ka HR7.out.xm HLE.out ⟨x, full, ⟨kd, tx, f, fr, en, bl⟩⟩ HR7.out.c HX7.out HR7.out.h1 HR7.out.fr, HR1'.out, HJOIN.out.trans HR2'.out, fun a ha => by
                  rcases List.mem_append.1 ha with ha | ha
                  · exact HBD.out a ha
                  · rw [List.mem_singleton.1 ha]; exact ⟨hxl, Nat.le_trans hfl (by omega)⟩⟩
              case measure => simp [intOf]; omega
      · obtain rfl : k = n := by omega
        have hd : raws.drop k = [] := List.drop_eq_nil_of_le (by rw [← HN.out]; exact Nat.le_refl _)
        rw [hd, Ep.argsOf] at hao
        injection hao with hao
        subst hao
        have hfin : ArgsPost w0 w xb mb kb ms X r (.returned (.tuple #[.slice (some ⟨ag, 0, none⟩) k k, .int .i64 0])) wr := by
          rw [hjoin]
          simp only [Ep.joinA, List.append_nil]
          exact ⟨hA.fr, ⟨_, rfl, hA.ags rfl (by unfold maxLen; omega)⟩, by have := hA.len; omega, hbd, hA.xm, hA.le⟩
        have HF := Lib.hid hfin
        clear hA hjoin hbd hfin hd
        go_wp2_with fail
        go_ret2
        exact HF.out
end Go.Proofs.YtlepnafgcmeimaaGreatDoor

/- What is proved: what piece adds of a string; piece. -/
namespace Go.Proofs.YtlepnafgcmeimaaGreatDoor
open Go.RowKit Go.Shelf
open Ep (HT)

noncomputable def pieceBodystr : Code := Tryz.f81.body.getD .skip

set_option maxRecDepth 100000 in
set_option maxHeartbeats 4000000 in
theorem piece_str (n fb : Nat) (f : Ep.Fl) (p : Ep.Pc) (va : Value) (ags : List Ep.Arg) (w0 w : World) (hn : w0.heap.size = n) (hG : Glob w0) (ha : Ags w0 va ags) (h : ∃ ov, Fs w n fb ov f) (hB : Below n w0 w)
    (_ : ags.length ≤ 1000000) (hf : f.out.length ≤ 4000) (r : Except Int Ep.Fl) (a : Ep.Arg) (hpa : ags[p.par]? = some a) (hw : p.way = 2) (hr : Ep.add f (Ep.HT.of ⟨a.quoted.kind, a.quoted.text, p.t.file, p.t.fr, p.t.en, p.t.bl⟩) = some r) :
    Calls Tryz.prog 81 #[.pointer (some ⟨fb, 0, none⟩), pcV p, va] w (AddPost n fb w r) := by
  have hnw : n ≤ w.heap.size := by have := hB.size; omega
  have hn1 : 1 < n := by have := hG.pos; omega
  obtain ⟨⟨kd, tx, fl, fr, en, bl⟩, way, par⟩ := p
  unfold pcV
  dsimp only at *
  subst hw
  have hA : Below w.heap.size w (w.alloc (.cells #[.int .i64 kd, .string tx, .int .i64 fl, .int .i64 fr, .int .i64 en, .bool bl, .int .i64 ((2 : Nat) : Int), .int .i64 (par : Int)] 149)) := (Below.refl _ _).alloc (Nat.le_refl _) _
  have hbx := heap_alloc_new w (.cells #[.int .i64 kd, .string tx, .int .i64 fl, .int .i64 fr, .int .i64 en, .bool bl, .int .i64 ((2 : Nat) : Int), .int .i64 (par : Int)] 149)
  have hB1 : Below n w (w.alloc (.cells #[.int .i64 kd, .string tx, .int .i64 fl, .int .i64 fr, .int .i64 en, .bool bl, .int .i64 ((2 : Nat) : Int), .int .i64 (par : Int)] 149)) := hA.mono hnw
  have h1 := h.imp fun ov h => h.below hA
  have hn2 : n ≤ (w.alloc (.cells #[.int .i64 kd, .string tx, .int .i64 fl, .int .i64 fr, .int .i64 en, .bool bl, .int .i64 ((2 : Nat) : Int), .int .i64 (par : Int)] 149)).heap.size := Nat.le_trans hnw hA.size
  have HBX := Lib.hid hbx
  have HB1 := Lib.hid hB1
  have H1 := Lib.hid h1
  have HA0 := Lib.hid ha
  have HG := Lib.hid hG
  have HB := Lib.hid hB
  have HF := Lib.hid hf
  have HN := Lib.hid hn
  have HN1 := Lib.hid hn1
  have HN2 := Lib.hid hn2
  have HR := Lib.hid hr
  have HPA := Lib.hid hpa
  clear hA hbx hB1 h1 ha hG hB hf hn hn1 hn2 h hnw hr hpa
  go_enter Tryz.func81, Tryz.ntmps81
  show Code.wp Tryz.prog (secs 0 pieceBodystr) _ _ _
  refine wp_sec 0 pieceBodystr rfl ?_
  conv => arg 2; whnf
  go_wp2_with fail
  generalize (w.alloc (.cells #[.int .i64 kd, .string tx, .int .i64 fl, .int .i64 fr, .int .i64 en, .bool bl, .int .i64 ((2 : Nat) : Int), .int .i64 (par : Int)] 149)) = W1 at HBX HB1 H1 HN2 ⊢
  obtain ⟨b0, b1, b2, b3, b4, b5, b6, b7, -⟩ := box8_cells HBX.out
  obtain ⟨ov, h1⟩ := H1.out
  have g0 : W1.cell? ⟨fb, 0, none⟩ = some ov := (Lib.cell_of_heap h1.blk 0).trans rfl
  have g1 : W1.cell? ⟨fb, 1, none⟩ = some (.bool f.gl) := (Lib.cell_of_heap h1.blk 1).trans rfl
  have gf : W1.frozen? ⟨fb, 1, none⟩ = false := by simp [World.frozen?, h1.blk]
  have HH := Lib.hid h1
  clear h1
  have hpl : par < ags.length := (List.getElem?_eq_some_iff.1 HPA.out).1
  have z1 : (0 : Int) ≤ par := by omega
  have z2 : (par : Int) < ags.length := by omega
  obtain ⟨aad, acap, rfl, -, -, hget⟩ := HA0.out
  obtain ⟨g, o, rfl, vr, vf, e0, hr0, e1, hf0, q0, q1, q2, q3, q4, q5⟩ := hget par a HPA.out
  have hbb := HB.out.trans HB1.out
  have hgl0 : g < n := by have := lt_of_cell e0; rw [HN.out] at this; exact this
  have q : ∀ (j : Nat) (u : Value), w0.cell? ⟨g, j, none⟩ = some u → W1.cell? ⟨g, j, none⟩ = some u := fun j u hu => (hbb.cell (p := ⟨g, j, none⟩) hgl0).trans hu
  replace e0 := q _ _ e0
  replace e1 := q _ _ e1
  replace q0 := q _ _ q0
  replace q1 := q _ _ q1
  replace q2 := q _ _ q2
  replace q3 := q _ _ q3
  replace q4 := q _ _ q4
  replace q5 := q _ _ q5
  have HR0 := Lib.hid hr0
  have HF0 := Lib.hid hf0
  obtain ⟨rad, rcap, rfl, -, -⟩ := hr0.form
  obtain ⟨fad, fcap, rfl, -, -⟩ := hf0.form
  clear hget q hr0 hf0 hbb hgl0
  obtain ⟨raw, full, ⟨qk, qt, qf, qfr, qe, qb⟩⟩ := a
  dsimp only at q0 q1 q2 q3 q4 q5 e0 e1 HR
  refine wp_sec 1 pieceBodystr rfl ?_
  conv => arg 2; whnf
  go_wp2_with fail
  have hal : Below W1.heap.size W1 (W1.alloc (.cells #[.int .i64 qk, .string qt, .int .i64 qf, .int .i64 qfr, .int .i64 qe, .bool qb] 30)) := (Below.refl _ _).alloc (Nat.le_refl _) _
  have hk7 := heap_alloc_new W1 (.cells #[.int .i64 qk, .string qt, .int .i64 qf, .int .i64 qfr, .int .i64 qe, .bool qb] 30)
  have hbx2 := (hal.block _ (lt_of_heap HBX.out)).trans HBX.out
  have hle := lt_of_heap HBX.out
  generalize W1.alloc (.cells #[.int .i64 qk, .string qt, .int .i64 qf, .int .i64 qfr, .int .i64 qe, .bool qb] 30) = W2 at hal hk7 hbx2 ⊢
  have hT : ∃ T7, W1.heap.size = T7 := ⟨_, rfl⟩
  obtain ⟨T7, hT⟩ := hT
  rw [hT] at hk7 ⊢
  clear b0 b1 b2 b3 b4 b5 b6 b7 g0 g1 gf e0 e1 q0 q1 q2 q3 q4 q5
  obtain ⟨b0, b1, b2, b3, b4, b5, b6, b7, -⟩ := box8_cells hbx2
  obtain ⟨s0, s1, s2, s3, s4, s5⟩ := box6_cells hk7
  have sf : ∀ i, W2.frozen? ⟨T7, i, none⟩ = false := fun i => by simp [World.frozen?, hk7]
  have HAL := Lib.hid hal
  have HK7 := Lib.hid hk7
  have HT := Lib.hid hT
  clear hal hk7 hT hbx2 hle
  go_region
  have hk3 : (((((W2.setCell ⟨T7, 2, none⟩ (.int .i64 fl)).setCell ⟨T7, 3, none⟩ (.int .i64 fr)).setCell ⟨T7, 4, none⟩ (.int .i64 en)).setCell ⟨T7, 5, none⟩ (.bool bl))).heap[T7]? = some (.cells #[.int .i64 qk, .string qt, .int .i64 fl, .int .i64 fr, .int .i64 en, .bool bl] 30 (0, 0)) := by
    have := HK7.out
    simp [World.setCell, Array.getElem?_modify, this]
  have hb3 : Below W1.heap.size W1 (((((W2.setCell ⟨T7, 2, none⟩ (.int .i64 fl)).setCell ⟨T7, 3, none⟩ (.int .i64 fr)).setCell ⟨T7, 4, none⟩ (.int .i64 en)).setCell ⟨T7, 5, none⟩ (.bool bl))) := by
    rw [HT.out]
    have h0 : Below T7 W1 W2 := by have := HAL.out; rw [HT.out] at this; exact this
    exact (((h0.setCell (show T7 ≤ T7 from Nat.le_refl _) _).setCell (show T7 ≤ T7 from Nat.le_refl _) _).setCell (show T7 ≤ T7 from Nat.le_refl _) _).setCell (show T7 ≤ T7 from Nat.le_refl _) _
  have hgX := HG.out.below ((HB.out.trans HB1.out).trans (hb3.mono HN2.out)) HN1.out
  have hfX := HH.out.below hb3
  have hnX := Nat.le_trans HN2.out hb3.size
  have hbX := HB1.out.trans (hb3.mono HN2.out)
  generalize ((((W2.setCell ⟨T7, 2, none⟩ (.int .i64 fl)).setCell ⟨T7, 3, none⟩ (.int .i64 fr)).setCell ⟨T7, 4, none⟩ (.int .i64 en)).setCell ⟨T7, 5, none⟩ (.bool bl)) = X at hk3 hb3 hgX hfX hnX hbX ⊢
  clear b0 b1 b2 b3 b4 b5 b6 b7 s0 s1 s2 s3 s4 s5 sf
  obtain ⟨s0, s1, s2, s3, s4, s5⟩ := box6_cells hk3
  have HBX2 := Lib.hid (hbX.drew)
  have KC := Lib.hid (show Calls Tryz.prog 97 #[.pointer (some ⟨fb, 0, none⟩), htAgg (Ep.HT.of ⟨qk, qt, fl, fr, en, bl⟩) none] X.drew (fun e4 w4 => ∃ k : Int, e4 = .returned (.int .i64 k) ∧ AddPost n fb w r (.returned (.int .i64 k)) w4) from (eadd_any n fb ov f (Ep.HT.of ⟨qk, qt, fl, fr, en, bl⟩) none X.drew (hgX.later (Below.refl _ _).drew) (hfX.below (Below.refl _ _).drew) (HidP.zero _) HN1.out hnX HF.out _ HR.out).mono (fun e4 w4 h4 => by
    cases r with
    | error k => obtain ⟨rfl, h0, hb4⟩ := h4; exact ⟨k, rfl, rfl, h0, HBX2.out.trans hb4⟩
    | ok f2 => obtain ⟨rfl, hf4, hb4⟩ := h4; exact ⟨0, rfl, rfl, hf4, HBX2.out.trans hb4⟩))
  clear hk3 hb3 hgX hfX hnX hbX
  go_wp2_with fail
  refine KC.out.mono ?_
  rintro e4 w4 ⟨k4, rfl, h4⟩
  have H4 := Lib.hid h4
  clear h4
  go_wp2_with fail
  exact bodyPost_ret (v := .int .i64 k4) (by simp [results, Tryz.results81, go_sem]) rfl H4.out


theorem efpiece_any (n fb : Nat) (f : Ep.Fl) (p : Ep.Pc) (va : Value) (ags : List Ep.Arg) (w0 w : World) (hn : w0.heap.size = n) (hG : Glob w0) (ha : Ags w0 va ags) (h : ∃ ov, Fs w n fb ov f) (hB : Below n w0 w)
    (hag : ags.length ≤ 1000000) (hls : ∀ a ∈ ags, a.raw.length ≤ 1000000 ∧ a.full.length ≤ 1000000) (hw : p.way ≤ 4) (hf : f.out.length ≤ 4000) (r : Except Int Ep.Fl) (hr : Ep.piece f p ags = some r) :
    Calls Tryz.prog 81 #[.pointer (some ⟨fb, 0, none⟩), pcV p, va] w (AddPost n fb w r) := by
  unfold Ep.piece at hr
  split at hr
  · rename_i hw1
    cases hgl : f.gl with
    | true => rw [hgl, if_pos rfl] at hr; exact piece_twice n fb f p va ags w0 w hn hG ha h hB hag hf r hgl hw1 hr
    | false =>
      rw [hgl, if_neg (by decide)] at hr
      injection hr with hr
      exact piece_glue n fb f p va ags w0 w hn hG ha h hB hag hf r hgl hw1 hr.symm
  · rename_i hw2
    cases ha2 : ags[p.par]? with
    | none => rw [ha2] at hr; cases hr
    | some a => rw [ha2] at hr; exact piece_str n fb f p va ags w0 w hn hG ha h hB hag hf r a ha2 hw2 hr
  · rename_i hw3
    cases ha2 : ags[p.par]? with
    | none => rw [ha2] at hr; cases hr
    | some a =>
      rw [ha2] at hr
      dsimp only at hr
      have hm := hls a (List.mem_of_getElem? ha2)
      cases he : a.raw.isEmpty with
      | true => rw [he, if_pos rfl] at hr; exact piece_empty n fb f p va ags w0 w hn hG ha h hB hag hf r a ha2 hw3 (List.isEmpty_iff.1 he) hr
      | false => rw [he, if_neg (by decide)] at hr; exact piece_raw n fb f p va ags w0 w hn hG ha h hB hag hf r a ha2 hw3 he hm.1 hr
  · rename_i hw4
    cases ha2 : ags[p.par]? with
    | none => rw [ha2] at hr; cases hr
    | some a => rw [ha2] at hr; exact piece_full n fb f p va ags w0 w hn hG ha h hB hag hf r a ha2 hw4 (hls a (List.mem_of_getElem? ha2)).2 hr
  · rename_i h1 h2 h3 h4
    have g1 : p.way ≠ 1 := h1
    have g2 : p.way ≠ 2 := h2
    have g3 : p.way ≠ 3 := h3
    have g4 : p.way ≠ 4 := h4
    exact piece_self n fb f p va ags w0 w hn hG ha h hB hag hf r (by omega) hr
end Go.Proofs.YtlepnafgcmeimaaGreatDoor

/- What is proved: what a body comes to. -/
namespace Go.Proofs.YtlepnafgcmeimaaGreatDoor
open Go.RowKit Go.Shelf
open Ep (HT)

theorem Ep.fill_cons {ags : List Ep.Arg} {p : Ep.Pc} {l : List Ep.Pc} {f : Ep.Fl} {r : Except Int Ep.Fl} (h : Ep.fill ags (p :: l) f = some r) : (∃ e, Ep.piece f p ags = some (.error e) ∧ r = .error e) ∨ ∃ f', Ep.piece f p ags = some (.ok f') ∧ Ep.fill ags l f' = some r := by
  unfold Ep.fill at h
  split at h
  · rename_i f' ha
    exact .inr ⟨f', ha, h⟩
  · rename_i hno
    cases hr : r with
    | error e => rw [hr] at h; exact .inl ⟨e, h, rfl⟩
    | ok f' => rw [hr] at h; exact absurd h (hno f')
def Ep.fin : Except Int Ep.Fl → Except Int (List HT)
  | .ok f => .ok (Ep.unmark f.out)
  | .error e => .error e
def FilledPost (w : World) (r : Except Int (List HT)) (e : Ending) (w' : World) : Prop :=
  match r with
  | .ok l => (∃ v, e = .returned (.tuple #[v, .int .i64 0]) ∧ HRow w' w.heap.size v l) ∧ l.length ≤ 4000 ∧ Below w.heap.size w w'
  | .error k => e = .returned (.tuple #[.slice none 0 0, .int .i64 k]) ∧ k ≠ 0 ∧ Below w.heap.size w w'
noncomputable def filledBody : Code := Tryz.f64.body.getD .skip
/-- The last placemarker goes. -/
theorem HRow.unmark {W : World} {n g cap : Nat} {l : List HT} (h : HRow W n (.slice (some ⟨g, 0, none⟩) l.length cap) l) : HRow W n (.slice (some ⟨g, 0, none⟩) l.dropLast.length cap) l.dropLast := by
  obtain ⟨cs, hrow, hcs⟩ := h
  exact ⟨_, row_shrink hrow (by rw [List.length_dropLast]; omega), hcs.dropLast⟩

set_option maxRecDepth 100000 in
set_option maxHeartbeats 4000000 in
theorem efilled_any (P U : List Ep.Pc) (n0 pb num k0 : Nat) (sv uv va : Value) (ags : List Ep.Arg) (w : World) (hG : Glob w) (hpl : PlW w n0 pb num sv uv P U k0) (ha : Ags w va ags) (hag : ags.length ≤ 1000000)
    (hls : ∀ a ∈ ags, a.raw.length ≤ 1000000 ∧ a.full.length ≤ 1000000) (hw : ∀ p ∈ P, p.way ≤ 4) (hP : P.length ≤ 1000000) (rr : Except Int Ep.Fl) (hrr : Ep.fill ags P ⟨[], false⟩ = some rr) :
    Calls Tryz.prog 64 #[.pointer (some ⟨pb, 0, none⟩), va] w (FilledPost w (Ep.fin rr)) := by
  obtain ⟨sad, scap, rfl⟩ : ∃ ad cap, sv = .slice ad P.length cap := by
    rcases hpl.srow.2 with ⟨h', h0⟩ | ⟨g, cap, cur, h', _⟩
    · exact ⟨none, 0, by rw [h', h0]⟩
    · exact ⟨_, _, h'⟩
  obtain ⟨L, hL⟩ : ∃ L, L = P.length := ⟨_, rfl⟩
  have y1 : w.cell? ⟨pb, 1, none⟩ = some (.slice sad P.length scap) := (Lib.cell_of_heap hpl.blk 1).trans rfl
  have hpb := lt_of_heap hpl.blk
  rw [← hL] at y1 hP
  have hA : Below w.heap.size w (w.alloc (.cells #[.slice none 0 0, .bool false] 147)) := (Below.refl _ _).alloc (Nat.le_refl _) _
  have hfs : Fs (w.alloc (.cells #[.slice none 0 0, .bool false] 147)) w.heap.size w.heap.size (.slice none 0 0) ⟨[], false⟩ := ⟨heap_alloc_new w _, Nat.le_refl _, HRow.nil _ _⟩
  have HL := Lib.hid hL
  have HFS := Lib.hid hfs
  have HAL := Lib.hid hA
  have HPL := Lib.hid hpl
  have HG := Lib.hid hG
  have HA := Lib.hid ha
  have HAG := Lib.hid hag
  have HLS := Lib.hid hls
  have HW := Lib.hid hw
  have HRR := Lib.hid hrr
  clear hL hA hfs hpl hG ha hag hls hw hrr
  go_enter Tryz.func64, Tryz.ntmps64
  go_wp2_with fail
  go_loopw [16] (fun a wr => ∃ (k : Nat) (f' : Ep.Fl), a = .int .i64 k ∧ k ≤ L ∧ Ep.fill ags (P.drop k) f' = some rr ∧ (∃ ov, Fs wr w.heap.size w.heap.size ov f') ∧ f'.out.length ≤ 4000 ∧ Below w.heap.size w wr) (fun a _ => L - (intOf a).toNat)
  case atStart => exact ⟨0, ⟨[], false⟩, rfl, Nat.zero_le _, HRR.out, ⟨_, HFS.out⟩, Nat.zero_le _, HAL.out⟩
  case round =>
    obtain ⟨k, f', rfl, hk, hr, hfs, hf, hB⟩ := hrel
    by_cases hlt : k < L
    · obtain ⟨p, hp⟩ : ∃ p, P[k]? = some p := ⟨_, List.getElem?_eq_getElem (by rw [← HL.out]; exact hlt)⟩
      have hd : P.drop k = p :: P.drop (k + 1) := by
        obtain ⟨h1, h2⟩ := List.getElem?_eq_some_iff.1 hp
        rw [List.drop_eq_getElem_cons h1, h2]
      rw [hd] at hr
      have hcons := Ep.fill_cons hr
      have hrow := row_below HPL.out.srow hB
      rw [← HL.out] at hrow
      obtain ⟨g, cap, hv, -, -⟩ := hrow.form (by omega)
      rw [hv] at hrow
      cases hv
      have cell : ∀ (j : Nat) (u : Value), (pcCells1 p)[j]? = some u → wr.cell? ⟨g, k * 8 + j, none⟩ = some u := fun j u hu => by
        have hj : j < 8 := (List.getElem?_eq_some_iff.1 hu).1
        exact (hrow.cellAt (k * 8 + j) (by omega)).trans (pcCells_get P k _ hp j u hu)
      have e0 := cell 0 _ rfl
      have e1 := cell 1 _ rfl
      have e2 := cell 2 _ rfl
      have e3 := cell 3 _ rfl
      have e4 := cell 4 _ rfl
      have e5 := cell 5 _ rfl
      have e6 := cell 6 _ rfl
      have e7 := cell 7 _ rfl
      rw [Nat.add_zero] at e0
      have HWP := Lib.hid (HW.out p (List.mem_of_getElem? hp))
      have HC := Lib.hid hcons
      have HFS2 := Lib.hid hfs
      have HF2 := Lib.hid hf
      have HB := Lib.hid hB
      have hbs := hB.size
      obtain ⟨⟨kd, tx, fl, fr, en, bl⟩, way, par⟩ := p
      dsimp only [pcCells1] at e0 e1 e2 e3 e4 e5 e6 e7 HC HWP
      have z1 : (0 : Int) ≤ k := by omega
      have z2 : (k : Int) < L := by omega
      have hA2 : Below wr.heap.size wr (wr.alloc (.cells #[.int .i64 kd, .string tx, .int .i64 fl, .int .i64 fr, .int .i64 en, .bool bl, .int .i64 (way : Int), .int .i64 (par : Int)] 149)) := (Below.refl _ _).alloc (Nat.le_refl _) _
      have HA2 := Lib.hid hA2
      have hbA := hB.trans (hA2.mono hbs)
      have HBA := Lib.hid hbA
      clear hp hd hr hcons hrow cell hfs hf hB hA2 hbA
      go_wp2_with fail
      rcases HC.out with ⟨e, hpc, hre⟩ | ⟨f2, hpc, hrest⟩
      · have HRE := Lib.hid hre
        refine (efpiece_any w.heap.size w.heap.size f' ⟨⟨kd, tx, fl, fr, en, bl⟩, way, par⟩ va ags w _ rfl HG.out HA.out (HFS2.out.imp fun ov h => h.below HA2.out) HBA.out HAG.out HLS.out HWP.out HF2.out (.error e) hpc).mono ?_
        rintro e9 w9 ⟨rfl, he0, hb9⟩
        have HB9 := Lib.hid (HBA.out.trans hb9)
        clear hb9 hpc hre e0 e1 e2 e3 e4 e5 e6 e7
        have he1 : (e == 0) = false := by simpa using he0
        go_wp2_with fail
        rw [HRE.out]
        exact bodyPost_ret (v := .tuple #[.slice none 0 0, .int .i64 e]) (by simp [results, Tryz.results64, go_sem]) rfl ⟨rfl, he0, HB9.out⟩
      · have HRE := Lib.hid hrest
        have HLN := Lib.hid (Ep.piece_len hpc HF2.out)
        refine (efpiece_any w.heap.size w.heap.size f' ⟨⟨kd, tx, fl, fr, en, bl⟩, way, par⟩ va ags w _ rfl HG.out HA.out (HFS2.out.imp fun ov h => h.below HA2.out) HBA.out HAG.out HLS.out HWP.out HF2.out (.ok f2) hpc).mono ?_
        rintro e9 w9 ⟨rfl, hf9, hb9⟩
        have HB9 := Lib.hid (HBA.out.trans hb9)
        have HF9 := Lib.hid hf9
        clear hb9 hf9 hpc hrest e0 e1 e2 e3 e4 e5 e6 e7
        go_wp2_with fail
        go_roundw
        case rel => exact ⟨k + 1, f2, by go_num, by omega, HRE.out, HF9.out, HLN.out, HB9.out⟩
        case measure => simp [intOf]; omega
    · obtain rfl : k = L := by omega
      have he : P.drop k = [] := List.drop_eq_nil_of_le (by rw [← HL.out]; exact Nat.le_refl _)
      rw [he] at hr
      injection hr with hr
      subst hr
      have HFS2 := Lib.hid hfs
      have HF2 := Lib.hid hf
      have HB := Lib.hid hB
      obtain ⟨ov, h⟩ := hfs
      obtain ⟨out, gl⟩ := f'
      dsimp only at hf
      clear hB
      have hcase : out = [] ∨ ∃ i l, out = i ++ [l] := by
        rcases List.eq_nil_or_concat out with h | ⟨i, l, h⟩
        · exact .inl h
        · exact .inr ⟨i, l, by rw [h]; simp⟩
      rcases hcase with rfl | ⟨i, l, rfl⟩
      · obtain ⟨ad, cap, rfl, -, -⟩ := h.row.hs.form
        simp only [List.length_nil] at h
        have c0 : wr.cell? ⟨w.heap.size, 0, none⟩ = some (.slice ad 0 cap) := (Lib.cell_of_heap h.blk 0).trans rfl
        have HH := Lib.hid h
        clear h
        go_wp2_with fail
        exact bodyPost_ret (v := .tuple #[.slice ad 0 cap, .int .i64 0]) (by simp [results, Tryz.results64, go_sem]) rfl ⟨⟨_, rfl, HH.out.row⟩, Nat.zero_le _, HB.out⟩
      · obtain ⟨g, cap, pl, cs', cur, rfl, hng, hgl, b1, b2, hpl, hrow2, hcs2, hg, hfz, hcell⟩ := h.row.last
        rw [show (i ++ [l]).length = i.length + 1 by simp] at hf
        have d7 := hcell 7 _ rfl
        have q1 : (0 : Int) ≤ (i.length : Int) := by omega
        have q2 : (i.length : Int) < (i.length : Int) + 1 := by omega
        have q3 : IntKind.i64.wrap ((i.length : Int) + 1 - 1) = i.length := by rw [Int.add_sub_cancel]; exact IntWalk.i64_in _ (by omega)
        have q4 : ((i.length : Int) + 1 - 1) = i.length := Int.add_sub_cancel _ _
        have q5 : ¬ (4000 : Int) < (i.length : Int) + 1 := by omega
        have q6 : ¬ (4000 : Int) < (i.length : Int) := by omega
        have q7 : (i.length : Int) ≤ cap := by omega
        have c0 : wr.cell? ⟨w.heap.size, 0, none⟩ = some (.slice (some ⟨g, 0, none⟩) (i.length + 1) cap) := (Lib.cell_of_heap h.blk 0).trans rfl
        have hf0 : wr.frozen? ⟨w.heap.size, 0, none⟩ = false := by simp [World.frozen?, h.blk]
        have hlb := lt_of_heap h.blk
        have HH := Lib.hid h
        have HRW := Lib.hid hrow2
        have HB1 := Lib.hid b1
        have HB2 := Lib.hid b2
        clear hcell hfz hg hcs2 hrow2 hpl h
        cases hm : l.mark with
        | false =>
          rw [hm] at d7
          go_wp2_with fail
          have hu : Ep.unmark (i ++ [l]) = i ++ [l] := by simp [Ep.unmark, hm]
          rw [Ep.fin, hu]
          exact bodyPost_ret (v := .tuple #[.slice (some ⟨g, 0, none⟩) (i.length + 1) cap, .int .i64 0]) (by simp [results, Tryz.results64, go_sem]) rfl ⟨⟨_, rfl, HH.out.row⟩, by simp; omega, HB.out⟩
        | true =>
          rw [hm] at d7
          go_wp2_with fail
          have hu : Ep.unmark (i ++ [l]) = i := by simp [Ep.unmark, hm]
          rw [Ep.fin, hu]
          refine bodyPost_ret (v := .tuple #[.slice (some ⟨g, 0, none⟩) i.length cap, .int .i64 0]) (by simp [results, Tryz.results64, go_sem]) rfl ⟨⟨_, rfl, ?_⟩, by omega, HB.out.setCell (show w.heap.size ≤ w.heap.size from Nat.le_refl _) _⟩
          have hrow0 := HH.out.row
          have hu2 : HRow wr w.heap.size (.slice (some ⟨g, 0, none⟩) (i ++ [l]).dropLast.length cap) (i ++ [l]).dropLast := HRow.unmark (by rw [show (i ++ [l]).length = i.length + 1 by simp]; exact hrow0)
          rw [List.dropLast_concat] at hu2
          obtain ⟨cs, hr1, hc1⟩ := hu2
          refine ⟨cs, ownsRow_setCell_other hr1 (fun e => ?_) _, hc1.keep (Kept.set HH.out.blk (by decide))⟩
          injection e with e
          have e : g = w.heap.size := e
          rcases HRW.out.2 with ⟨h', _⟩ | ⟨g', cap', cur', h', _, hg', _⟩
          · cases h'
          · cases h'
            rw [e, HH.out.blk] at hg'
            injection hg' with hg'; injection hg' with _ hg' _; exact absurd hg' (by decide)
end Go.Proofs.YtlepnafgcmeimaaGreatDoor

/- What is proved: the end of replace: what a body came to is hidden, and has the token's Blank. -/
namespace Go.Proofs.YtlepnafgcmeimaaGreatDoor
open Go.RowKit Go.Shelf
open Ep (HT XS)
open Mx (M)

theorem HCs.setBl {W : World} {b : Bool} {x : HT} {l : List HT} {cs : List Value} (h : HCs W (x :: l) cs) : HCs W (⟨Ep.blK x.t b, x.hd, x.mark⟩ :: l) (cs.set 5 (.bool b)) := by
  obtain ⟨p, r, e, hp, h⟩ := h
  subst e
  exact ⟨p, r, rfl, hp, h⟩
/-- The first one has that Blank. -/
theorem HRow.come {W : World} {n g m cap : Nat} {x : HT} {l : List HT} (h : HRow W n (.slice (some ⟨g, 0, none⟩) m cap) (x :: l)) (b : Bool) : HRow (W.setCell ⟨g, 5, none⟩ (.bool b)) n (.slice (some ⟨g, 0, none⟩) m cap) (Ep.come (x :: l) b) := by
  obtain ⟨cur, hg, -⟩ := h.block
  obtain ⟨cs, hrow, hcs⟩ := h
  obtain rfl : m = (x :: l).length := by
    rcases hrow.2 with ⟨h', _⟩ | ⟨g', cap', cur, h', _⟩
    · cases h'
    · cases h'; rfl
  exact ⟨cs.set 5 (.bool b), (hrow.stored 5 (.bool b)).1, hcs.setBl.keep (Kept.set hg (by decide))⟩
def ReplPost (w0 : World) (n lb xb mb : Nat) (kb : Nat → Nat) (ms : List M) (X : XS) (vs0 : List Value) (w : World) (r : Except Int (XS × List HT × List (List HT))) (e : Ending) (w' : World) : Prop :=
  Fr true w0.heap.size n w w' ∧
  match r with
  | .ok (X', l, st') => (∃ v, e = .returned (.tuple #[v, .int .i64 0]) ∧ Hs w' v l ∧ ∀ B, v.ownBlock = some B → w.heap.size ≤ B) ∧ l.length ≤ 4000 ∧ XM w0 w' xb mb kb ms X' ∧ Ep.Le X X' ∧ X.steps + 1 ≤ X'.steps ∧ ∃ lv vs, Rs w' n lb lv vs st' false ∧ Sub vs vs0
  | .error k => e = .returned (.tuple #[.slice none 0 0, .int .i64 k]) ∧ k ≠ 0
noncomputable def replBody : Code := Tryz.f43.body.getD .skip
/-- What holds between the statements of replace. -/
structure RpL (w0 w W : World) (n lb xb mb : Nat) (kb : Nat → Nat) (ms : List M) (vs0 : List Value) (X X' : XS) (st : List (List HT)) (B6 : Nat) (x : HT) (hp : Option Addr) (h : Nat) : Prop where
  xm : XM w0 W xb mb kb ms X'
  le : Ep.Le X X'
  rs : ∃ lv vs, Rs W n lb lv vs st false ∧ Sub vs vs0
  fr : Fr true w0.heap.size n w W
  bx : ∃ p, W.heap[B6]? = some (.cells #[.int .i64 x.t.kind, .string x.t.text, .int .i64 x.t.file, .int .i64 x.t.fr, .int .i64 x.t.en, .bool x.t.bl, .pointer p, .bool x.mark] 92 (0, 0))
  hd : HidP W hp h
section
variable {w0 w W W' : World} {n lb xb mb : Nat} {kb : Nat → Nat} {ms : List M} {vs0 : List Value} {X X' X2 : XS} {st : List (List HT)} {B6 : Nat} {x : HT} {hp : Option Addr} {h : Nat}
theorem RpL.hn (k : RpL w0 w W n lb xb mb kb ms vs0 X X' st B6 x hp h) : n ≤ W.heap.size := by obtain ⟨lv, vs, hr, -⟩ := k.rs; exact Nat.le_trans hr.hn (Nat.le_of_lt hr.lt)
theorem RpL.move (k : RpL w0 w W n lb xb mb kb ms vs0 X X' st B6 x hp h) (hf : Fr true w0.heap.size W.heap.size W W') (hx : XM w0 W' xb mb kb ms X2) (hl : Ep.Le X' X2) : RpL w0 w W' n lb xb mb kb ms vs0 X X2 st B6 x hp h := by
  obtain ⟨lv, vs, hr, hsub⟩ := k.rs
  obtain ⟨p, hb⟩ := k.bx
  have hk := KeepA.of_fr hf
  refine ⟨hx, k.le.trans hl, ⟨lv, vs, hr.keep (fun b hbb => ?_) (hk.kept (by decide) (by decide)) (hk.kept (by decide) (by decide)), hsub⟩, k.fr.trans (hf.le k.hn), ⟨p, hk _ _ _ _ hb (by decide) (by decide)⟩, k.hd.keep (hk.kept (by decide) (by decide))⟩
  rcases hbb with rfl | hbb
  · rw [hk _ _ _ _ hr.blk (by decide) (by decide), hr.blk]
  · rcases hr.row.2 with ⟨h', _⟩ | ⟨g, cap, cur, h', _, h2, _⟩
    · rw [h'] at hbb; cases hbb
    · rw [h'] at hbb
      simp only [Value.ownBlock, Option.some.injEq] at hbb
      subst hbb
      rw [hk _ _ _ _ h2 (by decide) (by decide), h2]
theorem RpL.below (k : RpL w0 w W n lb xb mb kb ms vs0 X X' st B6 x hp h) (hb : Below W.heap.size W W') : RpL w0 w W' n lb xb mb kb ms vs0 X X' st B6 x hp h := k.move (Fr.of_below hb) (k.xm.below hb) (Ep.Le.refl _)
end

set_option maxRecDepth 100000 in
set_option maxHeartbeats 4000000 in
/-- What came is hidden, its first token has the Blank; it is told. -/
theorem repl_end (w0 w V W : World) (n lb xb mb : Nat) (kb : Nat → Nat) (ms : List M) (vs0 : List Value) (X X' : XS) (st : List (List HT)) (B6 : Nat) (x : HT) (hp : Option Addr) (h j q : Nat) (m : M) (v : Value) (l : List HT) c0 c2 c3 c4 c5 c7 c8 c9 c11 c12 c13 c14 c15 c17 c18 c19 c20 c21 c22 c23 c24 c25 c26 c27 c28 c29 c30 c31 c32 c33 c34 c35 c36 c37 c38 c39 c40 c41 c42 c43 c44 c45 c46 c47 c48 c49 c50 c51 c52 c53 c54 c55 c56 c57 c58 c59 c60 c61 c62 c63 c64 c65 c66 c67 c68 c69 c70 c71 c72 c73 c74 c75 c76 c77 c78 c79 c80 c81 c82 c83 c84 c85 c86 c87 c88 c89 c90 c91 c92 c93 c94 c95 c96 c97 (hL : RpL w0 w V n lb xb mb kb ms vs0 X X' st B6 x hp h) (hst : X.steps + 1 ≤ X'.steps)
    (hj : ms[j]? = some m) (hj' : Ep.ixOf m.name ms 0 = some j) (hq : Ep.planIx j X'.pl 0 = some q) (hq6 : q < 60) (hV : Below V.heap.size V W) (hrow : HRow W V.heap.size v l) (hl : l.length ≤ 4000) :
    Code.wp Tryz.prog (secs 10 replBody) (bodyPost Tryz.prog Tryz.f43 (ReplPost w0 n lb xb mb kb ms X vs0 w (.ok (X', Ep.fit x l h q, st))))
      ⟨#[c0, .pointer (some ⟨kb j, 0, none⟩), c2, c3, c4, c5, .pointer (some ⟨B6, 0, none⟩), c7, c8, c9, .pointer hp, c11, c12, c13, c14, c15, v, c17, c18, c19, c20, c21, c22, c23, c24, c25, c26, c27, c28, c29, c30, c31, c32, c33, c34, c35, c36, c37, c38, c39, c40, c41, c42, c43, c44, c45, c46, c47, c48, c49, c50, c51, c52, c53, c54, c55, c56, c57, c58, c59, c60, c61, c62, c63, c64, c65, c66, c67, c68, c69, c70, c71, c72, c73, c74, c75, c76, c77, c78, c79, c80, c81, c82, c83, c84, c85, c86, c87, c88, c89, c90, c91, c92, c93, c94, c95, c96, c97], []⟩ W := by
  obtain ⟨ad, cap, rfl, -, -⟩ := hrow.hs.form
  have hW := hL.below hV
  obtain ⟨pb, sv, ug, ucap, pv, bv, -, -, -, k5, p0, p2, -⟩ := hW.xm.use hj hj' hq
  have hown : ∀ B, (Value.slice ad l.length cap).ownBlock = some B → V.heap.size ≤ B := fun B hB => by obtain ⟨cs, hr, -⟩ := hrow; exact (hr.lt B hB).1
  have KW := Lib.hid (ewith_any hp h q W hW.hd hq6)
  have HL := Lib.hid hL
  have HROW := Lib.hid hrow
  have HV := Lib.hid hV
  have hvs := hV.size
  clear hW hL hrow hV hj hj' hq
  refine wp_sec 10 replBody rfl ?_
  conv => arg 2; whnf
  go_wp2_with fail
  refine KW.out.mono ?_
  rintro e1 w1 ⟨⟨q1, rfl, hh1⟩, hb1⟩
  have KH := Lib.hid (ehide_any (.slice ad l.length cap) l q1 (h ||| 1 <<< q) V.heap.size w1 (HROW.out.below hb1) hh1 (by omega) (Nat.le_trans hvs hb1.size))
  have HB1 := Lib.hid (Below.then HV.out hb1)
  clear hh1 hb1 k5 p0 p2
  go_wp2_with fail
  refine KH.out.mono ?_
  rintro e2 w2 ⟨rfl, hrow2, hb2⟩
  have hB2 := HB1.out.trans hb2
  have hL2 := HL.out.below hB2
  obtain ⟨p, hbx⟩ := hL2.bx
  obtain ⟨-, -, -, -, -, x5, -, -, -⟩ := box8_cells hbx
  go_wp2_with fail
  refine wp_sec 11 replBody rfl ?_
  conv => arg 2; whnf
  cases hl0 : l with
  | nil =>
    subst hl0
    have hfin : ReplPost w0 n lb xb mb kb ms X vs0 w (.ok (X', Ep.fit x [] h q, st)) (.returned (.tuple #[.slice ad 0 cap, .int .i64 0])) w2 :=
      ⟨hL2.fr, ⟨_, rfl, hrow2.hs, fun B hB => Nat.le_trans HL.out.fr.size (hown B hB)⟩, Nat.zero_le _, hL2.xm, hL2.le, hst, hL2.rs⟩
    have HF := Lib.hid hfin
    clear hfin hL2 hbx hrow2 hb2 hB2
    go_wp2_with fail
    refine wp_sec 12 replBody rfl ?_
    conv => arg 2; whnf
    go_wp2_with fail
    conv => arg 2; whnf
    go_wp2_with fail
    go_ret2
    exact HF.out
  | cons y r =>
    subst hl0
    have hyr : Ep.hide (y :: r) (h ||| 1 <<< q) = ⟨y.t, y.hd ||| (h ||| 1 <<< q), y.mark⟩ :: Ep.hide r (h ||| 1 <<< q) := rfl
    obtain ⟨g, hg0⟩ : ∃ g, ad = some ⟨g, 0, none⟩ := by
      obtain ⟨cs, hr, -⟩ := hrow2
      rcases hr.2 with ⟨_, h0⟩ | ⟨g', cap', cur, h', _⟩
      · simp [Ep.hide] at h0
      · injection h' with h'
        exact ⟨g', h'⟩
    subst hg0
    have hrow3 := hrow2
    rw [hyr] at hrow3
    obtain ⟨cur, hgb, hng⟩ := hrow3.block
    obtain ⟨g', o', e, -, ⟨-, -, -, -, -, d5⟩, -⟩ := hs_some hrow3.hs (show (_ :: _ : List HT)[0]? = some _ from rfl)
    injection e with e
    injection e with e1 e2
    subst e1 e2
    rw [Nat.zero_mul, Nat.add_zero] at d5
    have hfz : ∀ i, w2.frozen? ⟨g, i, none⟩ = false := fun i => by simp [World.frozen?, hgb]
    have hlast := hrow3.come x.t.bl
    have hL3 := HL.out.below (hB2.setCell (p := ⟨g, 5, none⟩) hng (.bool x.t.bl))
    have hfin : ReplPost w0 n lb xb mb kb ms X vs0 w (.ok (X', Ep.fit x (y :: r) h q, st)) (.returned (.tuple #[.slice (some ⟨g, 0, none⟩) (r.length + 1) cap, .int .i64 0])) (w2.setCell ⟨g, 5, none⟩ (.bool x.t.bl)) :=
      ⟨hL3.fr, ⟨_, rfl, hlast.hs, fun B hB => Nat.le_trans HL.out.fr.size (hown B hB)⟩, by show (Ep.fit x (y :: r) h q).length ≤ 4000; simpa [Ep.fit, Ep.come, Ep.hide] using hl, hL3.xm, hL3.le, hst, hL3.rs⟩
    have HF := Lib.hid hfin
    have z0 : (0 : Int) < (y :: r).length := by rw [List.length_cons]; omega
    have z1 : (0 : Int) < (r.length : Int) + 1 := by omega
    have hlen : (y :: r).length = r.length + 1 := rfl
    clear hfin hL3 hlast hrow3 hL2 hbx hrow2 hb2 hB2 hyr hgb hl
    rw [hlen] at z0 ⊢
    go_wp2_with fail
    refine wp_sec 12 replBody rfl ?_
    conv => arg 2; whnf
    go_wp2_with fail
    conv => arg 2; whnf
    go_wp2_with fail
    go_ret2
    exact HF.out
end Go.Proofs.YtlepnafgcmeimaaGreatDoor

/- What is proved: replace, from its step on. -/
namespace Go.Proofs.YtlepnafgcmeimaaGreatDoor
open Go.RowKit Go.Shelf
open Ep (HT XS)
open Mx (M)

/-- What is behind the arguments. -/
def Ep.behind (m : M) (x : HT) (h q : Nat) (st : List (List HT)) : Except Int (XS × List Ep.Arg) → Ep.R (XS × List HT × List (List HT))
  | .error e => some (.error e)
  | .ok (X2, ags) =>
    match Ep.filled (Ep.pieces m) ags with
    | none => none
    | some (.error e) => some (.error e)
    | some (.ok l) => some (.ok (X2, Ep.fit x l h q, st))
theorem Ep.behind_ok (m : M) (x : HT) (h q : Nat) (st : List (List HT)) (X2 : XS) (ags : List Ep.Arg) : Ep.behind m x h q st (.ok (X2, ags)) =
    match Ep.filled (Ep.pieces m) ags with
    | none => none
    | some (.error e) => some (.error e)
    | some (.ok l) => some (.ok (X2, Ep.fit x l h q, st)) := rfl
theorem Ep.filled_fin (P : List Ep.Pc) (ags : List Ep.Arg) : Ep.filled P ags = (Ep.fill ags P ⟨[], false⟩).map Ep.fin := by
  unfold Ep.filled
  cases Ep.fill ags P ⟨[], false⟩ with
  | none => rfl
  | some rr => cases rr <;> rfl

set_option maxRecDepth 100000 in
set_option maxHeartbeats 4000000 in
theorem repl_fill (w0 w W : World) (n lb xb mb : Nat) (kb : Nat → Nat) (ms : List M) (vs0 : List Value) (X X' : XS) (st : List (List HT)) (B6 : Nat) (x : HT) (hp : Option Addr) (h j q : Nat) (m : M) (v : Value) (ags : List Ep.Arg) c0 c2 c3 c4 c5 c7 c8 c9 c11 c12 c13 c15 c16 c17 c18 c19 c20 c21 c22 c23 c24 c25 c26 c27 c28 c29 c30 c31 c32 c33 c34 c35 c36 c37 c38 c39 c40 c41 c42 c43 c44 c45 c46 c47 c48 c49 c50 c51 c52 c53 c54 c55 c56 c57 c58 c59 c60 c61 c62 c63 c64 c65 c66 c67 c68 c69 c70 c71 c72 c73 c74 c75 c76 c77 c78 c79 c80 c81 c82 c83 c84 c85 c86 c87 c88 c89 c90 c91 c92 c93 c94 c95 c96 c97 (hL : RpL w0 w W n lb xb mb kb ms vs0 X X' st B6 x hp h) (hst : X.steps + 1 ≤ X'.steps)
    (hG : Glob w0) (hm : MOk m) (hj : ms[j]? = some m) (hj' : Ep.ixOf m.name ms 0 = some j) (hq : Ep.planIx j X'.pl 0 = some q) (hq6 : q < 60) (hv : Ags W v ags) (hag : ags.length ≤ 1000000) (hls : ∀ a ∈ ags, a.raw.length ≤ 1000000 ∧ a.full.length ≤ 1000000)
    (r : Except Int (XS × List HT × List (List HT))) (hr : Ep.behind m x h q st (.ok (X', ags)) = some r) :
    Code.wp Tryz.prog (secs 8 replBody) (bodyPost Tryz.prog Tryz.f43 (ReplPost w0 n lb xb mb kb ms X vs0 w r))
      ⟨#[c0, .pointer (some ⟨kb j, 0, none⟩), c2, c3, c4, c5, .pointer (some ⟨B6, 0, none⟩), c7, c8, c9, .pointer hp, c11, c12, c13, v, c15, c16, c17, c18, c19, c20, c21, c22, c23, c24, c25, c26, c27, c28, c29, c30, c31, c32, c33, c34, c35, c36, c37, c38, c39, c40, c41, c42, c43, c44, c45, c46, c47, c48, c49, c50, c51, c52, c53, c54, c55, c56, c57, c58, c59, c60, c61, c62, c63, c64, c65, c66, c67, c68, c69, c70, c71, c72, c73, c74, c75, c76, c77, c78, c79, c80, c81, c82, c83, c84, c85, c86, c87, c88, c89, c90, c91, c92, c93, c94, c95, c96, c97], []⟩ W := by
  obtain ⟨pb, sv, ug, ucap, pv, bv, -, -, hpl, k5, p0, p2, -⟩ := hL.xm.use hj hj' hq
  rw [Ep.behind_ok, Ep.filled_fin] at hr
  obtain ⟨rr, hrr⟩ : ∃ rr, Ep.fill ags (Ep.pieces m) ⟨[], false⟩ = some rr := by
    cases hf : Ep.fill ags (Ep.pieces m) ⟨[], false⟩ with
    | none => rw [hf] at hr; cases hr
    | some rr => exact ⟨rr, rfl⟩
  rw [hrr, Option.map_some] at hr
  have KF := Lib.hid (efilled_any (Ep.pieces m) (Ep.pieces m) w0.heap.size pb q (m.ps.length + 1) sv _ v ags W (hG.below hL.xm.bl hG.pos) hpl hv hag hls (fun p hp => (Ep.pieces_way m p hp).1) (Nat.le_trans (Ep.pieces_length m) hm.bl) rr hrr)
  have hr2 : r = match Ep.fin rr with | .error e => .error e | .ok l => .ok (X', Ep.fit x l h q, st) := by
    cases hf : Ep.fin rr with
    | error e => rw [hf] at hr; injection hr with hr; exact hr.symm
    | ok l => rw [hf] at hr; injection hr with hr; exact hr.symm
  have HL := Lib.hid hL
  have HR := Lib.hid hr2
  have HJ := Lib.hid (And.intro hj (And.intro hj' hq))
  clear hL hj hj' hq hrr hr2 hr hpl hv hls
  generalize Ep.fin rr = f at KF HR
  refine wp_sec 8 replBody rfl ?_
  conv => arg 2; whnf
  go_wp2_with fail
  refine KF.out.mono ?_
  rintro e1 w1 hf1
  cases f with
  | error k =>
    obtain ⟨rfl, hk0, hb1⟩ := hf1
    have hfin : ReplPost w0 n lb xb mb kb ms X vs0 w r (.returned (.tuple #[.slice none 0 0, .int .i64 k])) w1 := by
      rw [HR.out]
      exact ⟨(HL.out.below hb1).fr, rfl, hk0⟩
    have HF := Lib.hid hfin
    have q0 : ¬ (k = 0) := hk0
    clear hfin hb1 k5 p0 p2
    go_wp2_with fail
    refine wp_sec 9 replBody rfl ?_
    conv => arg 2; whnf
    go_wp2_with fail
    go_ret2
    exact HF.out
  | ok l =>
    obtain ⟨⟨v1, rfl, hrow⟩, hl, hb1⟩ := hf1
    have HB1 := Lib.hid hb1
    have HROW := Lib.hid hrow
    clear hb1 hrow k5 p0 p2
    go_wp2_with fail
    refine wp_sec 9 replBody rfl ?_
    conv => arg 2; whnf
    go_wp2_with fail
    rw [HR.out]
    exact repl_end w0 w W w1 n lb xb mb kb ms vs0 X X' st B6 x hp h j q m v1 l _ _ _ _ _ _ _ _ _ _ _ _ _ _ _ _ _ _ _ _ _ _ _ _ _ _ _ _ _ _ _ _ _ _ _ _ _ _ _ _ _ _ _ _ _ _ _ _ _ _ _ _ _ _ _ _ _ _ _ _ _ _ _ _ _ _ _ _ _ _ _ _ _ _ _ _ _ _ _ _ _ _ _ _ _ _ _ _ _ _ _ _ _ _ HL.out hst HJ.out.1 HJ.out.2.1 HJ.out.2.2 hq6 HB1.out HROW.out hl

set_option maxRecDepth 100000 in
set_option maxHeartbeats 4000000 in
/-- From the step on. -/
theorem repl_step (w0 w W : World) (n lb xb mb : Nat) (kb : Nat → Nat) (ms : List M) (vs0 : List Value) (run : XS → List HT → Ep.R (XS × List HT)) (hRUN : RunAny w0 xb mb kb ms run) (X : XS) (st : List (List HT)) (B6 : Nat) (x : HT) (hp : Option Addr) (h j : Nat) (m : M) (iv cv : Value) (ins : List HT) (cs : List Nat) c2 c3 c4 c5 c7 c8 c9 c13 c14 c15 c16 c17 c18 c19 c20 c21 c22 c23 c24 c25 c26 c27 c28 c29 c30 c31 c32 c33 c34 c35 c36 c37 c38 c39 c40 c41 c42 c43 c44 c45 c46 c47 c48 c49 c50 c51 c52 c53 c54 c55 c56 c57 c58 c59 c60 c61 c62 c63 c64 c65 c66 c67 c68 c69 c70 c71 c72 c73 c74 c75 c76 c77 c78 c79 c80 c81 c82 c83 c84 c85 c86 c87 c88 c89 c90 c91 c92 c93 c94 c95 c96 c97 (hL : RpL w0 w W n lb xb mb kb ms vs0 X X st B6 x hp h)
    (hG : Glob w0) (hm : MOk m) (hj : ms[j]? = some m) (hj' : Ep.ixOf m.name ms 0 = some j) (hfn : m.fn = true → Hs W iv ins ∧ (∃ B, IRow W B cv cs) ∧ InvOk ins cs) (hib : ins.length ≤ 1000000)
    (r : Except Int (XS × List HT × List (List HT))) (X1 : XS) (q : Nat) (hs : Ep.stepOf X j = some (X1, q)) (ra : Except Int (XS × List Ep.Arg)) (hra : (match Ep.shared m ins cs with | .error e => some (.error e) | .ok raws => Ep.argsOf run (Ep.pieces m) 0 X1 raws) = some ra) (hr : Ep.behind m x h q st ra = some r) :
    Code.wp Tryz.prog (secs 5 replBody) (bodyPost Tryz.prog Tryz.f43 (ReplPost w0 n lb xb mb kb ms X vs0 w r))
      ⟨#[.pointer (some ⟨xb, 0, none⟩), .pointer (some ⟨kb j, 0, none⟩), c2, c3, c4, c5, .pointer (some ⟨B6, 0, none⟩), c7, c8, c9, .pointer hp, iv, cv, c13, c14, c15, c16, c17, c18, c19, c20, c21, c22, c23, c24, c25, c26, c27, c28, c29, c30, c31, c32, c33, c34, c35, c36, c37, c38, c39, c40, c41, c42, c43, c44, c45, c46, c47, c48, c49, c50, c51, c52, c53, c54, c55, c56, c57, c58, c59, c60, c61, c62, c63, c64, c65, c66, c67, c68, c69, c70, c71, c72, c73, c74, c75, c76, c77, c78, c79, c80, c81, c82, c83, c84, c85, c86, c87, c88, c89, c90, c91, c92, c93, c94, c95, c96, c97], []⟩ W := by
  have KS := Lib.hid (estep_any w0 xb mb kb ms X X1 j q m W hL.xm hj hj' hm hs)
  have HL := Lib.hid hL
  have HJ := Lib.hid (And.intro hj hj')
  have HFN := Lib.hid hfn
  have HRA := Lib.hid hra
  have HR := Lib.hid hr
  have HRUN := Lib.hid hRUN
  clear hL hj hj' hfn hra hr hRUN hs
  refine wp_sec 5 replBody rfl ?_
  conv => arg 2; whnf
  go_wp2_with fail
  refine KS.out.mono ?_
  rintro e1 w1 ⟨rfl, hx1, hf1, hle1, hq1, hs1, hq6⟩
  have hL1 := HL.out.move hf1 hx1 hle1
  have hfn1 : m.fn = true → Hs w1 iv ins ∧ (∃ B, IRow w1 B cv cs) ∧ InvOk ins cs := fun hf => by
    obtain ⟨a, ⟨B, b⟩, c⟩ := HFN.out hf
    have hk := KeepA.of_fr hf1
    exact ⟨hk.hs a, ⟨B, row_keepK b (hk.kept (by decide) (by decide))⟩, c⟩
  have KA := Lib.hid (eargs_any w0 xb mb kb ms run HRUN.out hG X1 j q m iv cv ins cs w1 hx1 HJ.out.1 HJ.out.2 hq1 hfn1 hm.ps hib ra HRA.out)
  have HL1 := Lib.hid hL1
  have HQ1 := Lib.hid hq1
  have HS1 := Lib.hid hs1
  clear hx1 hf1 hle1 hL1 hfn1 hq1 hs1
  go_wp2_with fail
  refine wp_sec 6 replBody rfl ?_
  conv => arg 2; whnf
  go_wp2_with fail
  refine KA.out.mono ?_
  rintro e2 w2 ⟨hf2, hr2⟩
  cases ra with
  | error k =>
    obtain ⟨rfl, hk0⟩ := hr2
    have hfin : ReplPost w0 n lb xb mb kb ms X vs0 w r (.returned (.tuple #[.slice none 0 0, .int .i64 k])) w2 := by
      have := HR.out
      unfold Ep.behind at this
      injection this with this
      rw [← this]
      exact ⟨HL1.out.fr.trans (hf2.le HL1.out.hn), rfl, hk0⟩
    have HF := Lib.hid hfin
    have q0 : ¬ (k = 0) := hk0
    clear hfin hf2
    go_wp2_with fail
    refine wp_sec 7 replBody rfl ?_
    conv => arg 2; whnf
    go_wp2_with fail
    go_ret2
    exact HF.out
  | ok y =>
    obtain ⟨X2, ags⟩ := y
    obtain ⟨⟨v2, rfl, hv2⟩, hal, hls, hx2, hle2⟩ := hr2
    have HL2 := Lib.hid (HL1.out.move hf2 hx2 hle2)
    have HV2 := Lib.hid hv2
    have HLS := Lib.hid hls
    have HLE := Lib.hid hle2
    clear hf2 hv2 hls hx2 hle2
    go_wp2_with fail
    refine wp_sec 7 replBody rfl ?_
    conv => arg 2; whnf
    go_wp2_with fail
    exact repl_fill w0 w w2 n lb xb mb kb ms vs0 X X2 st B6 x hp h j q m v2 ags _ _ _ _ _ _ _ _ _ _ _ _ _ _ _ _ _ _ _ _ _ _ _ _ _ _ _ _ _ _ _ _ _ _ _ _ _ _ _ _ _ _ _ _ _ _ _ _ _ _ _ _ _ _ _ _ _ _ _ _ _ _ _ _ _ _ _ _ _ _ _ _ _ _ _ _ _ _ _ _ _ _ _ _ _ _ _ _ _ _ _ _ _ _ HL2.out (by have := HLE.out.st; have := HS1.out; omega) hG hm HJ.out.1 HJ.out.2 (HLE.out.pl j q HQ1.out) hq6 HV2.out hal HLS.out r HR.out
end Go.Proofs.YtlepnafgcmeimaaGreatDoor
