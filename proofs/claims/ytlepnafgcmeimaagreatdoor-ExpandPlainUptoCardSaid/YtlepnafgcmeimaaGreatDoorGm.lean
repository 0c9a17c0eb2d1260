/- A rest in memory; what drop does. (and what stands with it) -/
import Derived.Test.YtlepnafgcmeimaaGreatDoorGl
import Derived.Test.YtlepnafgcmeimaaGreatDoorGk
import Derived.Deep.AppendLies
import Derived.Deep.QuietTactic
import Derived.BigQuiet
import Derived.StillTailTactics
import Derived.Deep.RegionLaw

/- A rest in memory; what drop does. -/
namespace Go.Proofs.YtlepnafgcmeimaaGreatDoor
open Go.RowKit Go.Shelf
open Ep (HT)

/-- The values of lists of tokens, the last one that of the first list; none is empty. -/
def Ls (W : World) : List (List HT) → List Value → Prop
  | [], vs => vs = []
  | l :: r, vs => ∃ us v, vs = us ++ [v] ∧ Hs W v l ∧ l ≠ [] ∧ Ls W r us
theorem Ls.keep {W W' : World} (h1 : Kept 92 W W') (h2 : Kept 137 W W') : ∀ {st : List (List HT)} {vs : List Value}, Ls W st vs → Ls W' st vs
  | [], _, h => h
  | _ :: _, _, ⟨us, v, e, hv, hn, h⟩ => ⟨us, v, e, hv.keep h1 h2, hn, Ls.keep h1 h2 h⟩
theorem Ls.length {W : World} : ∀ {st : List (List HT)} {vs : List Value}, Ls W st vs → vs.length = st.length
  | [], _, h => by rw [show _ = [] from h]; rfl
  | _ :: _, _, ⟨us, v, e, _, _, h⟩ => by rw [e, List.length_append, Ls.length h]; rfl
structure Rs (W : World) (n lb : Nat) (lv : Value) (vs : List Value) (st : List (List HT)) (b : Bool) : Prop where
  blk : W.heap[lb]? = some (.cells #[lv, .bool b] 88 (0, 0))
  hn : n ≤ lb
  row : W.ownsRow n 54 1 lv vs.length vs
  ls : Ls W st vs
section
variable {W W' : World} {n lb : Nat} {lv : Value} {vs : List Value} {st : List (List HT)} {b : Bool}
theorem Rs.lt (h : Rs W n lb lv vs st b) : lb < W.heap.size := lt_of_heap h.blk
theorem Rs.c0 (h : Rs W n lb lv vs st b) : W.cell? ⟨lb, 0, none⟩ = some lv := (Lib.cell_of_heap h.blk 0).trans rfl
theorem Rs.c1 (h : Rs W n lb lv vs st b) : W.cell? ⟨lb, 1, none⟩ = some (.bool b) := (Lib.cell_of_heap h.blk 1).trans rfl
theorem Rs.froz (h : Rs W n lb lv vs st b) (i : Nat) : W.frozen? ⟨lb, i, none⟩ = false := by simp [World.frozen?, h.blk]
theorem Rs.off (h : Rs W n lb lv vs st b) : lv.ownBlock ≠ some lb := fun hk => by
  rcases h.row.2 with ⟨h', _⟩ | ⟨g', cap', cur, h', _, h2', _⟩
  · rw [h'] at hk; cases hk
  · rw [h'] at hk
    simp only [Value.ownBlock, Option.some.injEq] at hk
    rw [hk, h.blk] at h2'
    injection h2' with h2'
    injection h2' with _ h3 _
    exact absurd h3 (by decide)
/-- Other memory may turn, so that its blocks and tokens stay. -/
theorem Rs.keep (h : Rs W n lb lv vs st b) (hk : ∀ k, (k = lb ∨ lv.ownBlock = some k) → W'.heap[k]? = W.heap[k]?) (h1 : Kept 92 W W') (h2 : Kept 137 W W') : Rs W' n lb lv vs st b := by
  refine ⟨(hk lb (.inl rfl)).trans h.blk, h.hn, ⟨h.row.1, ?_⟩, h.ls.keep h1 h2⟩
  rcases h.row.2 with h' | ⟨g, cap, cur, h', a1, a2, a3⟩
  · exact .inl h'
  · exact .inr ⟨g, cap, cur, h', a1, (hk g (.inr (by rw [h']; rfl))).trans a2, a3⟩
theorem Rs.below (h : Rs W n lb lv vs st b) (hb : Below W.heap.size W W') : Rs W' n lb lv vs st b :=
  h.keep (fun k hk => hb.block k (by rcases hk with rfl | hk; exact h.lt; exact (h.row.lt k hk).2)) (Kept.of_below hb _) (Kept.of_below hb _)
/-- The first list, and the value of the lists. -/
theorem Rs.top {l : List HT} (h : Rs W n lb lv vs (l :: st) b) : ∃ us gv ov cv g cap, vs = us ++ [.slice (some ⟨gv, ov, none⟩) l.length cv] ∧ lv = .slice (some ⟨g, 0, none⟩) (us.length + 1) cap ∧ us.length = st.length ∧
    Hs W (.slice (some ⟨gv, ov, none⟩) l.length cv) l ∧ l.length ≤ cv ∧ cv ≤ maxLen ∧ 0 < l.length ∧ gv < W.heap.size ∧ Ls W st us ∧ n ≤ g ∧ g < W.heap.size ∧ us.length < cap ∧ cap ≤ maxLen ∧ g ≠ lb ∧ g ≠ gv ∧ lb ≠ gv ∧
    W.cell? ⟨g, us.length, none⟩ = some (.slice (some ⟨gv, ov, none⟩) l.length cv) ∧ W.frozen? ⟨g, us.length, none⟩ = false := by
  obtain ⟨us, v, e, hv, hne, hls⟩ := h.ls
  have hl : 0 < l.length := List.length_pos_iff.2 hne
  obtain ⟨ad, cv, rfl, b1, b2, b3⟩ := id hv
  obtain ⟨gv, ov, rfl, hat⟩ := b3 0 _ (List.getElem?_eq_getElem hl)
  have hgv := lt_of_cell hat.2.1.1
  obtain ⟨⟨cs, fz, hty⟩, -⟩ := hat
  have hrow := h.row
  rw [e] at hrow
  have hoff := h.off
  rcases hrow.2 with ⟨h', h0⟩ | ⟨g, cap, cur, h', a1, a2, a3, a4, a5, a6⟩
  · simp at h0
  · simp only [List.length_append, List.length_singleton] at h' a3 a6
    subst h'
    have hgl := lt_of_heap a2
    refine ⟨us, gv, ov, cv, g, cap, e, rfl, hls.length, hv, b1, b2, hl, hgv, hls, a1, hgl, by omega, a4, fun e => hoff (by rw [← e]; rfl), fun e => ?_, fun e => ?_, ?_, by simp [World.frozen?, a2]⟩
    · rw [← e, a2] at hty; injection hty with hty; injection hty with _ h3 _; exact absurd h3 (by decide)
    · rw [← e, h.blk] at hty; injection hty with hty; injection hty with _ h3 _; exact absurd h3 (by decide)
    · have := hrow.cells (g := g) rfl us.length (.slice (some ⟨gv, ov, none⟩) l.length cv) (by rw [List.getElem?_append_right (Nat.le_refl _), Nat.sub_self]; rfl)
      rwa [add_none, Nat.zero_add] at this
end
theorem Rs.drew {W : World} {n lb : Nat} {lv : Value} {vs : List Value} {st : List (List HT)} {b : Bool} (h : Rs W n lb lv vs st b) : Rs W.drew n lb lv vs st b :=
  h.keep (fun _ _ => rfl) (fun _ _ _ hb => hb) (fun _ _ _ hb => hb)
theorem Kept.set {t t' : TypeId} {W : World} {k i : Nat} {u : Value} {cs : Array Value} {fz : Nat × Nat} (hk : W.heap[k]? = some (.cells cs t' fz)) (ht : t ≠ t') : Kept t W (W.setCell ⟨k, i, none⟩ u) := fun b ds fy hb => by
  refine (heap_setCell_other W ⟨k, i, none⟩ b u fun e => ?_).trans hb
  have e : b = k := e
  subst e
  rw [hk] at hb
  injection hb with hb
  injection hb with _ h3 _
  exact ht h3.symm
/-- The first list's value is written. -/
theorem Rs.setTop {W : World} {n lb g cap : Nat} {us : List Value} {v v' : Value} {l l' : List HT} {st : List (List HT)} {b : Bool} (h : Rs W n lb (.slice (some ⟨g, 0, none⟩) (us.length + 1) cap) (us ++ [v]) (l :: st) b)
    (hv : Hs W v' l') (hne : l' ≠ []) : Rs (W.setCell ⟨g, us.length, none⟩ v') n lb (.slice (some ⟨g, 0, none⟩) (us.length + 1) cap) (us ++ [v']) (l' :: st) b := by
  have hrow := h.row
  rw [show (us ++ [v]).length = us.length + 1 by simp] at hrow
  have hst := hrow.stored us.length v'
  obtain ⟨cs, hg⟩ : ∃ cs, W.heap[g]? = some (.cells cs 54 (0, 0)) := by
    rcases hrow.2 with ⟨h', _⟩ | ⟨g', cap', cur, h', _, h2, _⟩
    · cases h'
    · cases h'; exact ⟨_, h2⟩
  have hoff : lb ≠ g := fun e => h.off (by rw [e]; rfl)
  obtain ⟨us', v0, e, -, -, hls⟩ := h.ls
  obtain ⟨e1, e2⟩ := List.append_inj' e rfl
  subst e1
  have k1 := Kept.set (i := us.length) (u := v') hg (show 92 ≠ 54 by decide)
  have k2 := Kept.set (i := us.length) (u := v') hg (show 137 ≠ 54 by decide)
  refine ⟨(heap_setCell_other W ⟨g, us.length, none⟩ lb v' hoff).trans h.blk, h.hn, ?_, us, v', rfl, hv.keep k1 k2, hne, hls.keep k1 k2⟩
  rw [show (us ++ [v']).length = us.length + 1 by simp]
  have := hst.1
  rwa [List.set_append_right _ _ (Nat.le_refl _), Nat.sub_self, List.set_cons_zero] at this
theorem row_shrink {w : World} {B e sz g cap n m : Nat} {xs : List Value} (h : w.ownsRow B e sz (.slice (some ⟨g, 0, none⟩) n cap) n xs) (hm : m ≤ n) : w.ownsRow B e sz (.slice (some ⟨g, 0, none⟩) m cap) m (xs.take (m * sz)) := by
  have hms : m * sz ≤ n * sz := Nat.mul_le_mul_right _ hm
  refine ⟨by rw [List.length_take, h.1]; omega, ?_⟩
  rcases h.2 with ⟨h', _⟩ | ⟨g', cap', cur, h', a1, a2, a3, a4, a5, a6⟩
  · cases h'
  · cases h'
    refine .inr ⟨g, cap, cur, rfl, a1, a2, by omega, a4, a5, ?_⟩
    rw [← a6, List.take_take, Nat.min_eq_left hms]
/-- The first list goes. -/
theorem Rs.pop {W : World} {n lb g cap : Nat} {us : List Value} {v : Value} {l : List HT} {st : List (List HT)} {b : Bool} (h : Rs W n lb (.slice (some ⟨g, 0, none⟩) (us.length + 1) cap) (us ++ [v]) (l :: st) b) (v' : Value) :
    Rs ((W.setCell ⟨g, us.length, none⟩ v').setCell ⟨lb, 0, none⟩ (.slice (some ⟨g, 0, none⟩) us.length cap)) n lb (.slice (some ⟨g, 0, none⟩) us.length cap) us st b := by
  have hoff : lb ≠ g := fun e => h.off (by rw [e]; rfl)
  obtain ⟨us', v0, e, -, -, hls⟩ := h.ls
  obtain ⟨e1, e2⟩ := List.append_inj' e rfl
  subst e1
  have hrow := h.row
  rw [show (us ++ [v]).length = us.length + 1 by simp] at hrow
  obtain ⟨cs, hg⟩ : ∃ cs, W.heap[g]? = some (.cells cs 54 (0, 0)) := by
    rcases hrow.2 with ⟨h', _⟩ | ⟨g', cap', cur, h', _, h2, _⟩
    · cases h'
    · cases h'; exact ⟨_, h2⟩
  have hst := row_shrink (hrow.stored us.length v').1 (Nat.le_succ us.length)
  rw [Nat.mul_one, List.set_append_right _ _ (Nat.le_refl _), List.take_append_of_le_length (Nat.le_refl _), List.take_length] at hst
  have hblk := (heap_setCell_other W ⟨g, us.length, none⟩ lb v' hoff).trans h.blk
  refine ⟨by simp [World.setCell, Array.getElem?_modify, h.blk, hoff.symm], h.hn, ?_, (hls.keep (Kept.set hg (by decide)) (Kept.set hg (by decide))).keep (Kept.set hblk (by decide)) (Kept.set hblk (by decide))⟩
  exact ownsRow_setCell_other hst (fun e => hoff (by simpa [Value.ownBlock] using e.symm)) _
/-- A cell of a rest's own blocks is written. -/
theorem Fr.set_rest {W : World} {N n : Nat} {k i : Nat} {u : Value} {cs : Array Value} {t : TypeId} {fz : Nat × Nat} (hk : W.heap[k]? = some (.cells cs t fz)) (ht : t = 88 ∨ t = 54) (hn : n ≤ k) (hN : N ≤ n) : Fr false N n W (W.setCell ⟨k, i, none⟩ u) :=
  ⟨rfl, rfl, rfl, by simp, fun b o hb ho => by
    refine (heap_setCell_other W ⟨k, i, none⟩ b u fun e => ?_).trans hb
    have e : b = k := e
    subst e
    rw [hk] at hb
    cases hb
    rcases ho with ho | ⟨_, ho | ho⟩
    · omega
    · rcases ht with rfl | rfl
      · exact ho.1 rfl
      · exact ho.2 rfl
    · omega⟩

/-- Values in blocks of those. -/
def Sub (vs us : List Value) : Prop := ∀ v ∈ vs, ∃ u ∈ us, v.ownBlock = u.ownBlock
def Off (B : Nat) (vs : List Value) : Prop := ∀ v ∈ vs, v.ownBlock ≠ some B
theorem Sub.off {vs us : List Value} {B : Nat} (h : Sub vs us) (k : Off B us) : Off B vs := fun v hv => by
  obtain ⟨u, hu, e⟩ := h v hv
  rw [e]
  exact k u hu
theorem Sub.refl (vs : List Value) : Sub vs vs := fun v hv => ⟨v, hv, rfl⟩
theorem Sub.trans {a b c : List Value} (h : Sub a b) (k : Sub b c) : Sub a c := fun v hv => by
  obtain ⟨u, hu, e⟩ := h v hv
  obtain ⟨t, ht, e'⟩ := k u hu
  exact ⟨t, ht, e.trans e'⟩
theorem Sub.init (us : List Value) (v : Value) : Sub us (us ++ [v]) := fun x hx => ⟨x, List.mem_append_left _ hx, rfl⟩
theorem Sub.last {us : List Value} {v v' : Value} (h : v'.ownBlock = v.ownBlock) : Sub (us ++ [v']) (us ++ [v]) := fun x hx => by
  rcases List.mem_append.1 hx with h' | h'
  · exact ⟨x, List.mem_append_left _ h', rfl⟩
  · rw [List.mem_singleton.1 h']; exact ⟨v, List.mem_append_right _ List.mem_cons_self, h⟩
/-- Only block B has turned. -/
def Only1 (B : Nat) (W W' : World) : Prop := ∀ k, k ≠ B → W'.heap[k]? = W.heap[k]?
theorem Only1.kept {t t' : TypeId} {B : Nat} {W W' : World} {cs : Array Value} {fz : Nat × Nat} (h : Only1 B W W') (hB : W.heap[B]? = some (.cells cs t' fz)) (ht : t ≠ t') : Kept t W W' := fun b ds fy hb => by
  refine (h b fun e => ?_).trans hb
  subst e
  rw [hB] at hb
  cases hb
  exact ht rfl
theorem Hs.only {W W' : World} {B : Nat} {v : Value} {l : List HT} {cs : Array Value} {fz : Nat × Nat} (h : Hs W v l) (k : Only1 B W W') (hB : W.heap[B]? = some (.cells cs 92 fz)) (ho : v.ownBlock ≠ some B) : Hs W' v l := by
  obtain ⟨ad, cap, rfl, a1, a2, a3⟩ := h
  refine ⟨ad, cap, rfl, a1, a2, fun i x hx => ?_⟩
  obtain ⟨g, o, rfl, ⟨ds, fy, hg⟩, hk, p, c6, c7, hp⟩ := a3 i x hx
  have hb := k g (fun e => ho (by rw [← e]; rfl))
  exact ⟨g, o, rfl, ⟨ds, fy, hb.trans hg⟩, hk.kept hb, p, (World.cell?_of_block (a := ⟨g, o + i * 8 + 6, none⟩) hb).trans c6, (World.cell?_of_block (a := ⟨g, o + i * 8 + 7, none⟩) hb).trans c7, hp.keep (k.kept hB (by decide))⟩
theorem Ls.only {W W' : World} {B : Nat} {cs : Array Value} {fz : Nat × Nat} (k : Only1 B W W') (hB : W.heap[B]? = some (.cells cs 92 fz)) : ∀ {st : List (List HT)} {vs : List Value}, Ls W st vs → Off B vs → Ls W' st vs
  | [], _, h, _ => h
  | _ :: _, _, ⟨us, v, e, hv, hn, h⟩, ho => ⟨us, v, e, hv.only k hB (ho v (by rw [e]; simp)), hn, Ls.only k hB h (fun x hx => ho x (by rw [e]; simp [hx]))⟩
theorem Rs.only {W W' : World} {n lb : Nat} {lv : Value} {vs : List Value} {st : List (List HT)} {b : Bool} {B : Nat} {cs : Array Value} {fz : Nat × Nat} (h : Rs W n lb lv vs st b) (k : Only1 B W W') (hB : W.heap[B]? = some (.cells cs 92 fz)) (ho : Off B vs) : Rs W' n lb lv vs st b := by
  have hx : ∀ (j : Nat) (ds : Array Value) (t : TypeId) (fy : Nat × Nat), W.heap[j]? = some (.cells ds t fy) → t ≠ 92 → W'.heap[j]? = W.heap[j]? := fun j ds t fy hj ht => k j fun e => by
    subst e
    rw [hB] at hj
    cases hj
    exact ht rfl
  refine ⟨(hx lb _ _ _ h.blk (by decide)).trans h.blk, h.hn, ⟨h.row.1, ?_⟩, h.ls.only k hB ho⟩
  rcases h.row.2 with h' | ⟨g, cap, cur, h', a1, a2, a3⟩
  · exact .inl h'
  · exact .inr ⟨g, cap, cur, h', a1, (hx g _ _ _ a2 (by decide)).trans a2, a3⟩
theorem Ls.off {W : World} {B : Nat} (hB : W.heap.size ≤ B) : ∀ {st : List (List HT)} {vs : List Value}, Ls W st vs → Off B vs
  | [], _, h => by rw [show _ = [] from h]; intro v hv; cases hv
  | l :: _, _, ⟨us, v, e, ⟨ad, cap, hv, _, _, h3⟩, hn, h⟩ => fun x hx => by
    rw [e] at hx
    rcases List.mem_append.1 hx with h' | h'
    · exact Ls.off hB h x h'
    · rw [List.mem_singleton.1 h', hv]
      obtain ⟨g, o, rfl, -, hk, -⟩ := h3 0 _ (List.getElem?_eq_getElem (List.length_pos_iff.2 hn))
      have := lt_of_cell hk.1
      intro e'
      simp only [Value.ownBlock, Option.some.injEq] at e'
      dsimp only at this
      omega
def DropPost (N n lb : Nat) (vs0 : List Value) (st : List (List HT)) (b : Bool) (w : World) (e : Ending) (w' : World) : Prop := e = .returned (.tuple #[]) ∧ (∃ lv vs, Rs w' n lb lv vs st b ∧ Sub vs vs0) ∧ Fr false N n w w'
set_option maxRecDepth 100000 in
set_option maxHeartbeats 4000000 in
theorem edrop_any (N n lb : Nat) (lv : Value) (vs : List Value) (l : List HT) (st : List (List HT)) (b : Bool) (m : Nat) (w : World) (h : Rs w n lb lv vs (l :: st) b) (hm : m ≤ l.length) (hN : N ≤ n) (hl : l.length ≤ 1000000) (hst : st.length ≤ 1000000) :
    Calls Tryz.prog 55 #[.pointer (some ⟨lb, 0, none⟩), .int .i64 m] w (DropPost N n lb vs (Ep.drop1 m (l :: st)) b w) := by
  obtain ⟨us, gv, ov, cv, g, cap, rfl, rfl, hus, hv, b1, b2, hl0, hgv, hls, hng, hgl, hc1, hc2, n1, n2, n3, cg, fg⟩ := h.top
  have c0 := h.c0
  have f0 := h.froz 0
  have hlt := h.lt
  have hnl := h.hn
  unfold maxLen at b2 hc2
  obtain ⟨L, hL⟩ : ∃ L, L = l.length := ⟨_, rfl⟩
  rw [← hL] at hm hl b1 hl0 cg
  have HH := Lib.hid h
  have Hv := Lib.hid hv
  have HL := Lib.hid hL
  have Hls := Lib.hid hls
  have Hus := Lib.hid hus
  have n1' : ¬ lb = g := fun e => n1 e.symm
  obtain ⟨U, hU⟩ : ∃ U, U = us.length := ⟨_, rfl⟩
  have HU := Lib.hid hU
  have hU1 : U ≤ 1000000 := by omega
  rw [← hU] at c0 cg fg hc1
  clear h hv hL hls hU hus hst
  have z1 : (0 : Int) ≤ U := by omega
  have z2 : (U : Int) < U + 1 := by omega
  have z3 : (0 : Int) ≤ m := by omega
  have z4 : (m : Int) ≤ L := by omega
  have z5 : ((U : Int) + 1 - 1) = U := by omega
  have z6 : IntKind.i64.wrap ((U : Int) + 1 - 1) = U := by rw [z5]; exact IntWalk.i64_in _ (by omega)
  have hgb := Lib.hid (show ∃ cs, w.heap[g]? = some (.cells cs 54 (0, 0)) by
    have hrow := HH.out.row
    rw [show (us ++ [Value.slice (some ⟨gv, ov, none⟩) l.length cv]).length = us.length + 1 by simp] at hrow
    rcases hrow.2 with ⟨h', _⟩ | ⟨g', cap', cur, h', _, h2, _⟩
    · cases h'
    · cases h'; exact ⟨_, h2⟩)
  have hset := Lib.hid (fun (u : Value) => show Fr false N n w (w.setCell ⟨g, U, none⟩ u) by
    obtain ⟨cs, hg⟩ := hgb.out
    exact Fr.set_rest hg (.inr rfl) hng hN)
  rcases Decidable.em (m = L) with rfl | hml
  · have hdr : Ep.drop1 m (l :: st) = st := by simp [Ep.drop1, HL.out]
    rw [hdr]
    have key := Lib.hid (fun (v' : Value) => show DropPost N n lb (us ++ [.slice (some ⟨gv, ov, none⟩) l.length cv]) st b w (.returned (.tuple #[])) (((w.setCell ⟨g, U, none⟩ v').setCell ⟨lb, 0, none⟩ (.slice (some ⟨g, 0, none⟩) U cap)).drew) by
      have hblk : (w.setCell ⟨g, U, none⟩ v').heap[lb]? = _ := (heap_setCell_other w ⟨g, U, none⟩ lb _ n1').trans HH.out.blk
      have hset2 := Fr.set_rest (N := N) (n := n) (i := 0) (u := .slice (some ⟨g, 0, none⟩) U cap) hblk (.inl rfl) hnl hN
      have hR := (HH.out.pop v').drew
      rw [← HU.out] at hR
      exact ⟨rfl, ⟨_, _, hR, Sub.init _ _⟩, (hset.out v').trans ⟨hset2.os, hset2.tape, hset2.output, hset2.size, hset2.block⟩⟩)
    clear hdr
    rcases Decidable.em (m = cv) with rfl | hcv
    · go_enter Tryz.func55, Tryz.ntmps55
      go_wp2_with fail
      go_region
      go_wp2_with fail
      go_end0
      exact key.out _
    · go_enter Tryz.func55, Tryz.ntmps55
      go_wp2_with fail
      go_region
      go_wp2_with fail
      go_end0
      exact key.out _
  · have hmlt : m < L := by omega
    have hdr : Ep.drop1 m (l :: st) = l.drop m :: st := by
      have : ¬ l.length ≤ m := by rw [← HL.out]; omega
      simp [Ep.drop1, this]
    rw [hdr]
    have key := Lib.hid (show DropPost N n lb (us ++ [.slice (some ⟨gv, ov, none⟩) l.length cv]) (l.drop m :: st) b w (.returned (.tuple #[])) ((w.setCell ⟨g, U, none⟩ (.slice (some ⟨gv, ov + m * 8, none⟩) (L - m) (cv - m))).drew) by
      have hp := Hv.out.part m l.length (m * 8) (by rw [← HL.out]; omega) (Nat.le_refl _) (fun _ => rfl)
      rw [← HL.out] at hp
      have hsl : Ep.sl l m L = l.drop m := by unfold Ep.sl; exact List.take_of_length_le (by rw [List.length_drop, ← HL.out]; exact Nat.le_refl _)
      rw [hsl] at hp
      have hR := (HH.out.setTop hp (fun e => by have := congrArg List.length e; rw [List.length_drop, ← HL.out] at this; simp at this; omega)).drew
      rw [← HU.out] at hR
      exact ⟨rfl, ⟨_, _, hR, Sub.last rfl⟩, (hset.out _).trans ⟨rfl, rfl, rfl, Nat.le_refl _, fun _ _ h _ => h⟩⟩)
    clear hdr
    go_enter Tryz.func55, Tryz.ntmps55
    go_wp2_with fail
    go_region
    have q0 : ¬ (L - m = 0) := by omega
    have q1 : ¬ ((L : Int) - m = 0) := by omega
    go_wp2_with fail
    go_end0
    exact key.out
end Go.Proofs.YtlepnafgcmeimaaGreatDoor

/- What is proved: opens, put, next, take of a rest. -/
namespace Go.Proofs.YtlepnafgcmeimaaGreatDoor
open Go.RowKit Go.Shelf
open Ep (HT)

theorem Below.drewN {B : Nat} {w W : World} (h : Below B w W) (k : Nat) : Below B w (W.drewN k) := ⟨h.os, h.tape, h.output, h.size, h.block⟩
theorem Rs.empty {W : World} {n lb : Nat} {lv : Value} {vs : List Value} {b : Bool} (h : Rs W n lb lv vs [] b) : ∃ a c, lv = .slice a 0 c := by
  have h1 : vs = [] := h.ls
  have hrow := h.row
  rw [h1] at hrow
  rcases hrow.2 with ⟨h', _⟩ | ⟨g', cap', cur, h', _⟩
  · exact ⟨_, _, h'⟩
  · exact ⟨_, _, h'⟩

set_option maxRecDepth 100000 in
set_option maxHeartbeats 4000000 in
theorem eopens_any (n lb : Nat) (lv : Value) (vs : List Value) (st : List (List HT)) (b : Bool) (w : World) (h : Rs w n lb lv vs st b) (hst : st.length ≤ 1000000) :
    Calls Tryz.prog 42 #[.pointer (some ⟨lb, 0, none⟩)] w fun e w' => e = .returned (.bool (Ep.opens st)) ∧ Below w.heap.size w w' := by
  have c0 := h.c0
  cases st with
  | nil =>
    obtain ⟨a, c, rfl⟩ := h.empty
    clear h
    go_enter Tryz.func42, Tryz.ntmps42
    go_wp2_with fail
    go_quiet (fail)
    go_wp2_with fail
    go_ret
    exact ⟨rfl, Below.drewN (Below.refl _ _) _⟩
  | cons l st =>
    obtain ⟨us, gv, ov, cv, g, cap, rfl, rfl, hus, hv, b1, b2, hl0, hgv, -, -, hgl, hc1, hc2, n1, n2, n3, cg, fg⟩ := h.top
    obtain ⟨x, r, rfl⟩ : ∃ x r, l = x :: r := by
      cases l with
      | nil => simp at hl0
      | cons x r => exact ⟨x, r, rfl⟩
    obtain ⟨g', o', e, -, hk, -⟩ := hs_some hv (show (x :: r)[0]? = some x from rfl)
    cases e
    obtain ⟨d0, d1, d2, d3, d4, d5⟩ := hk
    simp only [Nat.zero_mul, Nat.add_zero] at d0 d1 d2 d3 d4 d5
    obtain ⟨L, hL⟩ : ∃ L, L = (x :: r).length := ⟨_, rfl⟩
    rw [← hL] at cg b1 hl0
    obtain ⟨U, hU⟩ : ∃ U, U = us.length := ⟨_, rfl⟩
    have hU1 : U ≤ 1000000 := by simp at hst; omega
    rw [← hU] at c0 cg hc1
    have key := fun W => esign_any x.t Mx.LP W
    have he : Ep.opens ((x :: r) :: st) = Mx.isP x.t Mx.LP := rfl
    rw [he]
    obtain ⟨⟨kd, tx, f, fr, en, bl⟩, hd, mk⟩ := x
    dsimp only [kAgg] at d0 d1 d2 d3 d4 d5 key ⊢
    clear h hv hL hU hus hst he fg
    have z1 : (0 : Int) ≤ U := by omega
    have z2 : (U : Int) < U + 1 := by omega
    have z5 : ((U : Int) + 1 - 1) = U := by omega
    have z6 : IntKind.i64.wrap ((U : Int) + 1 - 1) = U := by rw [z5]; exact IntWalk.i64_in _ (by omega)
    have z7 : (0 : Int) < U + 1 := by omega
    have z9 : IntKind.i64.wrap (U : Int) = U := IntWalk.i64_in _ (by omega)
    have z8 : (0 : Int) < L := by omega
    have KEY := Lib.hid key
    clear key
    go_enter Tryz.func42, Tryz.ntmps42
    go_wp2_with fail
    go_still_tail 22, (by kernel_rfl)
    change wpList _ _ _ _ _ w.drew
    have hB : Below w.heap.size w w.drew := (Below.refl _ _).drew
    generalize w.drew = w2 at hB ⊢
    have HB := Lib.hid hB
    clear hB c0 cg d0 d1 d2 d3 d4 d5
    go_wp2_with fail
    refine (KEY.out _).mono ?_
    rintro e w3 ⟨rfl, hB3⟩
    go_wp2_with fail
    go_ret
    exact ⟨rfl, Below.then HB.out hB3⟩

theorem infoHts : (Tryz.prog.info? 54).map (fun i => (i.zero, i.size, i.bytes)) = some (some (.slice none 0 0), 1, 24) := by kernel_rfl
theorem Fr.grown {W W' : World} {N n e sz m : Nat} {v : Value} {xs : List Value} (h : W.ownsRow n e sz v m xs) (he : e = 88 ∨ e = 54) (hg : W.grownBy W' v.ownBlock) (hN : N ≤ n) : Fr false N n W W' :=
  ⟨hg.os, hg.tape, hg.output, hg.size, fun b o hb ho => by
    refine (hg.block b (Array.getElem?_eq_some_iff.1 hb).1 fun e' => ?_).trans hb
    have hlt := h.lt b e'.symm
    rcases h.2 with ⟨h', _⟩ | ⟨g', cap', cur, h', _, h2', _⟩
    · rw [h'] at e'; cases e'
    · rw [h'] at e'
      simp only [Value.ownBlock, Option.some.injEq] at e'
      rw [← e', hb] at h2'
      cases h2'
      rcases ho with ho | ⟨_, ho | ho⟩
      · omega
      · rcases he with rfl | rfl
        · exact ho.1 rfl
        · exact ho.2 rfl
      · omega⟩
theorem Rs.push {W W1 W2 : World} {N n lb : Nat} {lv lv' v : Value} {vs : List Value} {l : List HT} {st : List (List HT)} {b : Bool} (h : Rs W n lb lv vs st b) (hv : Hs W v l) (hne : l ≠ []) (hal : Below W.heap.size W W1)
    (hown : W2.ownsRow n 54 1 lv' (vs.length + 1) (vs ++ [v])) (hgrow : W1.grownBy W2 lv.ownBlock) (hoff' : lv'.ownBlock ≠ some lb) (hN : N ≤ n) :
    Rs (W2.setCell ⟨lb, 0, none⟩ lv') n lb lv' (vs ++ [v]) (l :: st) b ∧ Fr false N n W (W2.setCell ⟨lb, 0, none⟩ lv') := by
  have h1 := h.below hal
  have hblk := (hgrow.block lb h1.lt (Ne.symm h1.off)).trans h1.blk
  have k1 : Kept 92 W W2 := (Kept.of_below hal _).trans (row_kept h1.row hgrow (by decide))
  have k2 : Kept 137 W W2 := (Kept.of_below hal _).trans (row_kept h1.row hgrow (by decide))
  have s1 := Kept.set (t := 92) (i := 0) (u := lv') hblk (by decide)
  have s2 := Kept.set (t := 137) (i := 0) (u := lv') hblk (by decide)
  refine ⟨⟨by simp [World.setCell, Array.getElem?_modify, hblk], h.hn, ?_, vs, v, rfl, (hv.keep k1 k2).keep s1 s2, hne, (h.ls.keep k1 k2).keep s1 s2⟩, ?_⟩
  · rw [show (vs ++ [v]).length = vs.length + 1 by simp]
    exact ownsRow_setCell_other hown hoff' _
  · exact ((Fr.of_below hal).trans (Fr.grown h1.row (.inr rfl) hgrow hN)).trans (Fr.set_rest hblk (.inl rfl) h.hn hN)
/-- What a rest is behind a call, and that nothing else has turned. -/
def RestPost (N n lb : Nat) (st : List (List HT) × Bool) (w w' : World) : Prop := (∃ lv vs, Rs w' n lb lv vs st.1 st.2) ∧ Fr false N n w w'
set_option maxRecDepth 100000 in
set_option maxHeartbeats 4000000 in
theorem eput_any (N n lb : Nat) (lv : Value) (vs : List Value) (st : List (List HT)) (v : Value) (l : List HT) (b' : Bool) (w : World) (h : Rs w n lb lv vs st false) (hv : Hs w v l) (hN : N ≤ n) (hst : st.length ≤ 1000000) :
    Calls Tryz.prog 39 #[.pointer (some ⟨lb, 0, none⟩), v, .bool b'] w fun e w' => e = .returned (.tuple #[]) ∧ RestPost N n lb (Ep.put l b' st) w w' := by
  obtain ⟨i0, hi, hz0, hz1, hz2⟩ := info_parts infoHts
  have c0 := h.c0
  have c1 := h.c1
  have f0 := h.froz 0
  have f1 := h.froz 1
  have hlt := h.lt
  obtain ⟨ad, cap, rfl, -, -⟩ := hv.form
  cases l with
  | nil =>
    have key : RestPost N n lb (Ep.put [] b' st) w (w.setCell ⟨lb, 1, none⟩ (.bool b')) := by
      refine ⟨⟨lv, vs, ?_⟩, Fr.set_rest h.blk (.inl rfl) h.hn hN⟩
      refine ⟨by simp [World.setCell, Array.getElem?_modify, h.blk, Ep.put], h.hn, ownsRow_setCell_other h.row h.off _, h.ls.keep (Kept.set h.blk (by decide)) (Kept.set h.blk (by decide))⟩
    have KEY := Lib.hid key
    clear key h hv
    rw [List.length_nil]
    go_enter Tryz.func39, Tryz.ntmps39
    go_wp2_with fail
    exact bodyPost_ret (results_none rfl _ _ _) rfl ⟨rfl, KEY.out⟩
  | cons x r =>
    have hrow := h.row
    obtain ⟨U, hU⟩ : ∃ U, U = vs.length := ⟨_, rfl⟩
    have hU1 : U ≤ 1000000 := by rw [hU, h.ls.length]; exact hst
    have hnb : n ≤ w.heap.size := Nat.le_trans h.hn (Nat.le_of_lt hlt)
    have off := Ne.symm h.off
    have HH := Lib.hid h
    have Hv := Lib.hid hv
    have HU := Lib.hid hU
    rw [← hU] at hrow
    have q0 : ¬ ((x :: r).length = 0) := by simp
    have q1 : ¬ (((x :: r).length : Int) = 0) := by simp; omega
    obtain ⟨L, hL⟩ : ∃ L, L = (x :: r).length := ⟨_, rfl⟩
    rw [← hL] at q0 q1 ⊢
    have qb : ((L : Int) == 0) = false := beq_eq_false_iff_ne.2 (by omega)
    rw [← hL] at Hv
    have hal : Below w.heap.size w (w.alloc (.cells #[.slice ad L cap] 54)) := (Below.refl _ w).alloc (Nat.le_refl _) _
    have d0 := (hal.cell (p := ⟨lb, 0, none⟩) hlt).trans c0
    have g0 := (hal.frozen (p := ⟨lb, 0, none⟩) hlt).trans f0
    have hlt1 : lb < (w.alloc (.cells #[.slice ad L cap] 54)).heap.size := by simp; omega
    have HAL := Lib.hid hal
    clear h hv hU hst hL c1 f1 f0 hal
    go_enter Tryz.func39, Tryz.ntmps39
    go_wp2_with (at_builtin; refine wpList_append_lies _ rfl _ _ 86 rfl n 54 i0 _ 1 24 Tryz.underlying86 hi hz0 hz1 hz2 rfl (by decide) lv U vs rfl (hrow.alloc _) ⟨w.heap.size, 0, none⟩ 1 1 [.slice ad L cap] rfl rfl (World.news_of_block (cs := #[.slice ad L cap]) (t := 54) (fr := (0, 0)) (heap_alloc_new w _)) (by simp [Value.oneCell']) (by decide) (by unfold maxLen; omega) (by omega) (by simp; omega) _ rfl ?_; intro gg cap' w2 hown hgrow hat hlt2; have e0 := (hgrow.cell_far ⟨lb, 0, none⟩ hlt1 off).trans d0; have e1 := (hgrow.frozen_far ⟨lb, 0, none⟩ hlt1 off).trans g0)
    go_end0
    rw [HU.out] at hown
    have hp := HH.out.push Hv.out (by simp) HAL.out hown hgrow (by
      simp only [Value.ownBlock, ne_eq, Option.some.injEq]
      rcases hat with hat | hat
      · rintro rfl; exact off hat.symm
      · simp at hat; omega) hN
    rw [← HU.out] at hp
    exact ⟨rfl, ⟨_, _, hp.1⟩, hp.2⟩
end Go.Proofs.YtlepnafgcmeimaaGreatDoor

/- What is proved: next, take of a rest. -/
namespace Go.Proofs.YtlepnafgcmeimaaGreatDoor
open Go.RowKit Go.Shelf
open Ep (HT)

theorem Rs.setBlank {W : World} {n lb : Nat} {lv : Value} {vs : List Value} {st : List (List HT)} {b : Bool} (h : Rs W n lb lv vs st b) (b' : Bool) : Rs (W.setCell ⟨lb, 1, none⟩ (.bool b')) n lb lv vs st b' :=
  ⟨by simp [World.setCell, Array.getElem?_modify, h.blk], h.hn, ownsRow_setCell_other h.row h.off _, h.ls.keep (Kept.set h.blk (by decide)) (Kept.set h.blk (by decide))⟩
theorem Fr.drew {x : Bool} {N n : Nat} {w w' : World} (h : Fr x N n w w') : Fr x N n w w'.drew := ⟨h.os, h.tape, h.output, h.size, h.block⟩
theorem box8_cells {W : World} {b t : Nat} {a0 a1 a2 a3 a4 a5 a6 a7 : Value} (h : W.heap[b]? = some (.cells #[a0, a1, a2, a3, a4, a5, a6, a7] t (0, 0))) :
    W.cell? ⟨b, 0, none⟩ = some a0 ∧ W.cell? ⟨b, 1, none⟩ = some a1 ∧ W.cell? ⟨b, 2, none⟩ = some a2 ∧ W.cell? ⟨b, 3, none⟩ = some a3 ∧ W.cell? ⟨b, 4, none⟩ = some a4 ∧ W.cell? ⟨b, 5, none⟩ = some a5 ∧ W.cell? ⟨b, 6, none⟩ = some a6 ∧ W.cell? ⟨b, 7, none⟩ = some a7 ∧ (∀ i, W.frozen? ⟨b, i, none⟩ = false) :=
  ⟨(Lib.cell_of_heap h 0).trans rfl, (Lib.cell_of_heap h 1).trans rfl, (Lib.cell_of_heap h 2).trans rfl, (Lib.cell_of_heap h 3).trans rfl, (Lib.cell_of_heap h 4).trans rfl, (Lib.cell_of_heap h 5).trans rfl, (Lib.cell_of_heap h 6).trans rfl, (Lib.cell_of_heap h 7).trans rfl, fun i => by simp [World.frozen?, h]⟩
/-- Eight cells of a box are written. -/
def set8 (W : World) (B : Nat) (a0 a1 a2 a3 a4 a5 a6 a7 : Value) : World :=
  ((((((((W.setCell ⟨B, 0, none⟩ a0).setCell ⟨B, 1, none⟩ a1).setCell ⟨B, 2, none⟩ a2).setCell ⟨B, 3, none⟩ a3).setCell ⟨B, 4, none⟩ a4).setCell ⟨B, 5, none⟩ a5).setCell ⟨B, 6, none⟩ a6).setCell ⟨B, 7, none⟩ a7)
theorem set8_at {W : World} {B : Nat} {t : TypeId} {z0 z1 z2 z3 z4 z5 z6 z7 : Value} (h : W.heap[B]? = some (.cells #[z0, z1, z2, z3, z4, z5, z6, z7] t (0, 0))) (a0 a1 a2 a3 a4 a5 a6 a7 : Value) :
    (set8 W B a0 a1 a2 a3 a4 a5 a6 a7).heap[B]? = some (.cells #[a0, a1, a2, a3, a4, a5, a6, a7] t (0, 0)) := by
  simp [set8, World.setCell, Array.getElem?_modify, h]
theorem set8_only (W : World) (B : Nat) (a0 a1 a2 a3 a4 a5 a6 a7 : Value) : Only1 B W (set8 W B a0 a1 a2 a3 a4 a5 a6 a7) := fun k hk => by
  unfold set8
  rw [heap_setCell_other _ _ _ _ hk, heap_setCell_other _ _ _ _ hk, heap_setCell_other _ _ _ _ hk, heap_setCell_other _ _ _ _ hk, heap_setCell_other _ _ _ _ hk, heap_setCell_other _ _ _ _ hk, heap_setCell_other _ _ _ _ hk, heap_setCell_other _ _ _ _ hk]
theorem set8_below {n B : Nat} {w W : World} (hB : Below n w W) (hn : n ≤ B) (a0 a1 a2 a3 a4 a5 a6 a7 : Value) : Below n w (set8 W B a0 a1 a2 a3 a4 a5 a6 a7) :=
  (((((((hB.setCell hn _).setCell hn _).setCell hn _).setCell hn _).setCell hn _).setCell hn _).setCell hn _).setCell hn _
/-- A block that is new since then has turned. -/
theorem Fr.only {x : Bool} {N n B : Nat} {w W W' : World} (h : Fr x N n w W) (k : Only1 B W W') (hB : w.heap.size ≤ B) (h1 : W'.os = W.os) (h2 : W'.tape = W.tape) (h3 : W'.output = W.output) (h4 : W.heap.size ≤ W'.heap.size) : Fr x N n w W' :=
  ⟨h1.trans h.os, h2.trans h.tape, h3.trans h.output, Nat.le_trans h.size h4, fun b o hb ho => by
    have hlt := (Array.getElem?_eq_some_iff.1 hb).1
    exact (k b (by omega)).trans (h.block b o hb ho)⟩
theorem Fr.set8 {x : Bool} {N n B : Nat} {w W : World} (h : Fr x N n w W) (hB : w.heap.size ≤ B) (a0 a1 a2 a3 a4 a5 a6 a7 : Value) : Fr x N n w (Go.Proofs.YtlepnafgcmeimaaGreatDoor.set8 W B a0 a1 a2 a3 a4 a5 a6 a7) :=
  have b := set8_below (Below.refl B W) (Nat.le_refl B) a0 a1 a2 a3 a4 a5 a6 a7
  h.only (set8_only W B a0 a1 a2 a3 a4 a5 a6 a7) hB b.os b.tape b.output b.size
/-- The zero token. -/
def zeroHt : Value := .agg #[.int .i64 0, .string ⟨#[]⟩, .int .i64 0, .int .i64 0, .int .i64 0, .bool false, .pointer none, .bool false]
set_option maxRecDepth 100000 in
set_option maxHeartbeats 4000000 in
theorem enext_none (n lb : Nat) (lv : Value) (vs : List Value) (b : Bool) (w : World) (h : Rs w n lb lv vs [] b) :
    Calls Tryz.prog 40 #[.pointer (some ⟨lb, 0, none⟩)] w fun e w' => e = .returned (.tuple #[zeroHt, .bool false]) ∧ Below w.heap.size w w' := by
  have c0 := h.c0
  have hlt := h.lt
  obtain ⟨a, c, rfl⟩ := h.empty
  clear h
  have hB : Below w.heap.size w (w.alloc (.cells #[.int .i64 0, .string ⟨#[]⟩, .int .i64 0, .int .i64 0, .int .i64 0, .bool false, .pointer none, .bool false] 92)) := (Below.refl _ _).alloc (Nat.le_refl _) _
  have HB := Lib.hid hB
  clear hB
  go_enter Tryz.func40, Tryz.ntmps40
  go_wp2_with fail
  exact bodyPost_ret (v := .tuple #[zeroHt, .bool false]) (by simp [results, Tryz.results40, go_sem, zeroHt]) rfl ⟨rfl, HB.out⟩
set_option maxRecDepth 100000 in
set_option maxHeartbeats 4000000 in
theorem enext_some (N n lb : Nat) (lv : Value) (vs : List Value) (x : HT) (r : List HT) (st : List (List HT)) (b : Bool) (w : World) (h : Rs w n lb lv vs ((x :: r) :: st) b) (hN : N ≤ n) (hl : (x :: r).length ≤ 1000000) (hst : st.length ≤ 1000000) :
    Calls Tryz.prog 40 #[.pointer (some ⟨lb, 0, none⟩)] w fun e w' => ∃ p, e = .returned (.tuple #[htAgg ⟨Ep.blK x.t (x.t.bl || b), x.hd, x.mark⟩ p, .bool true]) ∧ HidP w' p x.hd ∧ (∃ lv' vs', Rs w' n lb lv' vs' (Ep.drop1 1 ((x :: r) :: st)) false ∧ Sub vs' vs) ∧ Fr false N n w w' := by
  have c0 := h.c0
  have c1 := h.c1
  have f1 := h.froz 1
  have hlt := h.lt
  have HH := Lib.hid h
  have hoff := Lib.hid (h.ls.off (Nat.le_refl _))
  obtain ⟨us, gv, ov, cv, g, cap, rfl, rfl, hus, hv, b1, b2, hl0, hgv, -, -, hgl, hc1, hc2, n1, n2, n3, cg, fg⟩ := h.top
  obtain ⟨g', o', e, -, ⟨d0, d1, d2, d3, d4, d5⟩, p, d6, d7, hp⟩ := hs_some hv (show (x :: r)[0]? = some x from rfl)
  cases e
  simp only [Nat.zero_mul, Nat.add_zero] at d0 d1 d2 d3 d4 d5 d6 d7
  obtain ⟨L, hL⟩ : ∃ L, L = (x :: r).length := ⟨_, rfl⟩
  rw [← hL] at cg b1 hl0
  obtain ⟨U, hU⟩ : ∃ U, U = us.length := ⟨_, rfl⟩
  have hU1 : U ≤ 1000000 := by omega
  rw [← hU] at c0 cg hc1
  have HL := Lib.hid hl
  have HST := Lib.hid hst
  have HP := Lib.hid hp
  obtain ⟨⟨kd, tx, f, fr, en, bl⟩, hd, mk⟩ := x
  dsimp only at d0 d1 d2 d3 d4 d5 d6 d7
  clear h hv hL hU hus hst fg hl hp
  have z1 : (0 : Int) ≤ U := by omega
  have z2 : (U : Int) < U + 1 := by omega
  have z5 : ((U : Int) + 1 - 1) = U := by omega
  have z6 : IntKind.i64.wrap ((U : Int) + 1 - 1) = U := by rw [z5]; exact IntWalk.i64_in _ (by omega)
  have z8 : (0 : Int) < L := by omega
  have z9 : IntKind.i64.wrap (U : Int) = U := IntWalk.i64_in _ (by omega)
  cases bl
  · go_enter Tryz.func40, Tryz.ntmps40
    go_wp2_with fail
    go_region
    go_wp2_with fail
    have hA : Below (w.setCell ⟨lb, 1, none⟩ (.bool false)).heap.size (w.setCell ⟨lb, 1, none⟩ (.bool false)) ((((w.setCell ⟨lb, 1, none⟩ (.bool false)).alloc (.cells #[.int .i64 0, .string ⟨#[]⟩, .int .i64 0, .int .i64 0, .int .i64 0, .bool false, .pointer none, .bool false] 92)).alloc (.cells #[.int .i64 kd, .string tx, .int .i64 f, .int .i64 fr, .int .i64 en, .bool b, .pointer p, .bool mk] 92)).drew) := (((Below.refl _ _).alloc (Nat.le_refl _) _).alloc (by simp) _).drew
    have hR := (HH.out.setBlank false).below hA
    have hF : Fr false N n w _ := (Fr.set_rest (i := 1) (u := .bool false) HH.out.blk (.inl rfl) HH.out.hn hN).trans (Fr.of_below hA)
    have hp2 := hF.hid HP.out
    have k1 := heap_alloc2_old (w.setCell ⟨lb, 1, none⟩ (.bool false)) (.cells #[.int .i64 0, .string ⟨#[]⟩, .int .i64 0, .int .i64 0, .int .i64 0, .bool false, .pointer none, .bool false] 92) (.cells #[.int .i64 kd, .string tx, .int .i64 f, .int .i64 fr, .int .i64 en, .bool b, .pointer p, .bool mk] 92)
    have k2 := heap_alloc2_new (w.setCell ⟨lb, 1, none⟩ (.bool false)) (.cells #[.int .i64 0, .string ⟨#[]⟩, .int .i64 0, .int .i64 0, .int .i64 0, .bool false, .pointer none, .bool false] 92) (.cells #[.int .i64 kd, .string tx, .int .i64 f, .int .i64 fr, .int .i64 en, .bool b, .pointer p, .bool mk] 92)
    rw [← heap_drew] at k1 k2
    rw [show (w.setCell ⟨lb, 1, none⟩ (.bool false)).heap.size = w.heap.size by simp] at k1 k2
    generalize ((((w.setCell ⟨lb, 1, none⟩ (.bool false)).alloc (.cells #[.int .i64 0, .string ⟨#[]⟩, .int .i64 0, .int .i64 0, .int .i64 0, .bool false, .pointer none, .bool false] 92)).alloc (.cells #[.int .i64 kd, .string tx, .int .i64 f, .int .i64 fr, .int .i64 en, .bool b, .pointer p, .bool mk] 92)).drew) = W1 at hR hF hp2 k1 k2 ⊢
    clear hA c0 c1 f1 cg d0 d1 d2 d3 d4 d5 d6 d7
    refine (edrop_any N n lb _ _ _ st false 1 W1 hR (by simp) hN HL.out HST.out).mono ?_
    rintro e w4 ⟨rfl, ⟨lv4, vs4, hR4, hsub⟩, hF4⟩
    have k1 := hF4.ht _ _ _ k1
    have k2 := hF4.ht _ _ _ k2
    have hp4 := hF4.hid hp2
    have hF5 := hF.trans hF4
    obtain ⟨u0, u1, u2, u3, u4, u5, u6, u7, -⟩ := box8_cells k2
    obtain ⟨v0, v1, v2, v3, v4, v5, v6, v7, vf⟩ := box8_cells k1
    have K1 := Lib.hid k1
    have HF5 := Lib.hid hF5
    have HS4 := Lib.hid hsub
    have HR4 := Lib.hid hR4
    have HP4 := Lib.hid hp4
    clear hsub k1 k2 hF hF4 hF5 hR hR4 hp2 hp4
    go_wp2_with fail
    have K5 := set8_at K1.out (.int .i64 kd) (.string tx) (.int .i64 f) (.int .i64 fr) (.int .i64 en) (.bool b) (.pointer p) (.bool mk)
    have R5 := HR4.out.only (set8_only w4 w.heap.size (.int .i64 kd) (.string tx) (.int .i64 f) (.int .i64 fr) (.int .i64 en) (.bool b) (.pointer p) (.bool mk)) K1.out (HS4.out.off hoff.out)
    have P5 := HP4.out.keep ((set8_only w4 w.heap.size (.int .i64 kd) (.string tx) (.int .i64 f) (.int .i64 fr) (.int .i64 en) (.bool b) (.pointer p) (.bool mk)).kept K1.out (by decide))
    have F5 := HF5.out.set8 (B := w.heap.size) (Nat.le_refl _) (.int .i64 kd) (.string tx) (.int .i64 f) (.int .i64 fr) (.int .i64 en) (.bool b) (.pointer p) (.bool mk)
    obtain ⟨v0, v1, v2, v3, v4, v5, v6, v7, -⟩ := box8_cells K5
    show bodyPost _ _ _ _ _ (set8 w4 w.heap.size (.int .i64 kd) (.string tx) (.int .i64 f) (.int .i64 fr) (.int .i64 en) (.bool b) (.pointer p) (.bool mk))
    generalize set8 w4 w.heap.size (.int .i64 kd) (.string tx) (.int .i64 f) (.int .i64 fr) (.int .i64 en) (.bool b) (.pointer p) (.bool mk) = W5 at K5 R5 P5 F5 v0 v1 v2 v3 v4 v5 v6 v7 ⊢
    exact bodyPost_ret (v := .tuple #[.agg #[.int .i64 kd, .string tx, .int .i64 f, .int .i64 fr, .int .i64 en, .bool b, .pointer p, .bool mk], .bool true]) (by simp [results, Tryz.results40, go_sem, v0, v1, v2, v3, v4, v5, v6, v7]) rfl ⟨p, rfl, P5, ⟨_, _, R5, HS4.out⟩, F5⟩
  · go_enter Tryz.func40, Tryz.ntmps40
    go_wp2_with fail
    go_region
    go_wp2_with fail
    have hA : Below (w.setCell ⟨lb, 1, none⟩ (.bool false)).heap.size (w.setCell ⟨lb, 1, none⟩ (.bool false)) ((((w.setCell ⟨lb, 1, none⟩ (.bool false)).alloc (.cells #[.int .i64 0, .string ⟨#[]⟩, .int .i64 0, .int .i64 0, .int .i64 0, .bool false, .pointer none, .bool false] 92)).alloc (.cells #[.int .i64 kd, .string tx, .int .i64 f, .int .i64 fr, .int .i64 en, .bool true, .pointer p, .bool mk] 92)).drew) := (((Below.refl _ _).alloc (Nat.le_refl _) _).alloc (by simp) _).drew
    have hR := (HH.out.setBlank false).below hA
    have hF : Fr false N n w _ := (Fr.set_rest (i := 1) (u := .bool false) HH.out.blk (.inl rfl) HH.out.hn hN).trans (Fr.of_below hA)
    have hp2 := hF.hid HP.out
    have k1 := heap_alloc2_old (w.setCell ⟨lb, 1, none⟩ (.bool false)) (.cells #[.int .i64 0, .string ⟨#[]⟩, .int .i64 0, .int .i64 0, .int .i64 0, .bool false, .pointer none, .bool false] 92) (.cells #[.int .i64 kd, .string tx, .int .i64 f, .int .i64 fr, .int .i64 en, .bool true, .pointer p, .bool mk] 92)
    have k2 := heap_alloc2_new (w.setCell ⟨lb, 1, none⟩ (.bool false)) (.cells #[.int .i64 0, .string ⟨#[]⟩, .int .i64 0, .int .i64 0, .int .i64 0, .bool false, .pointer none, .bool false] 92) (.cells #[.int .i64 kd, .string tx, .int .i64 f, .int .i64 fr, .int .i64 en, .bool true, .pointer p, .bool mk] 92)
    rw [← heap_drew] at k1 k2
    rw [show (w.setCell ⟨lb, 1, none⟩ (.bool false)).heap.size = w.heap.size by simp] at k1 k2
    generalize ((((w.setCell ⟨lb, 1, none⟩ (.bool false)).alloc (.cells #[.int .i64 0, .string ⟨#[]⟩, .int .i64 0, .int .i64 0, .int .i64 0, .bool false, .pointer none, .bool false] 92)).alloc (.cells #[.int .i64 kd, .string tx, .int .i64 f, .int .i64 fr, .int .i64 en, .bool true, .pointer p, .bool mk] 92)).drew) = W1 at hR hF hp2 k1 k2 ⊢
    clear hA c0 c1 f1 cg d0 d1 d2 d3 d4 d5 d6 d7
    refine (edrop_any N n lb _ _ _ st false 1 W1 hR (by simp) hN HL.out HST.out).mono ?_
    rintro e w4 ⟨rfl, ⟨lv4, vs4, hR4, hsub⟩, hF4⟩
    have k1 := hF4.ht _ _ _ k1
    have k2 := hF4.ht _ _ _ k2
    have hp4 := hF4.hid hp2
    have hF5 := hF.trans hF4
    obtain ⟨u0, u1, u2, u3, u4, u5, u6, u7, -⟩ := box8_cells k2
    obtain ⟨v0, v1, v2, v3, v4, v5, v6, v7, vf⟩ := box8_cells k1
    have K1 := Lib.hid k1
    have HF5 := Lib.hid hF5
    have HS4 := Lib.hid hsub
    have HR4 := Lib.hid hR4
    have HP4 := Lib.hid hp4
    clear hsub k1 k2 hF hF4 hF5 hR hR4 hp2 hp4
    go_wp2_with fail
    have K5 := set8_at K1.out (.int .i64 kd) (.string tx) (.int .i64 f) (.int .i64 fr) (.int .i64 en) (.bool true) (.pointer p) (.bool mk)
    have R5 := HR4.out.only (set8_only w4 w.heap.size (.int .i64 kd) (.string tx) (.int .i64 f) (.int .i64 fr) (.int .i64 en) (.bool true) (.pointer p) (.bool mk)) K1.out (HS4.out.off hoff.out)
    have P5 := HP4.out.keep ((set8_only w4 w.heap.size (.int .i64 kd) (.string tx) (.int .i64 f) (.int .i64 fr) (.int .i64 en) (.bool true) (.pointer p) (.bool mk)).kept K1.out (by decide))
    have F5 := HF5.out.set8 (B := w.heap.size) (Nat.le_refl _) (.int .i64 kd) (.string tx) (.int .i64 f) (.int .i64 fr) (.int .i64 en) (.bool true) (.pointer p) (.bool mk)
    obtain ⟨v0, v1, v2, v3, v4, v5, v6, v7, -⟩ := box8_cells K5
    show bodyPost _ _ _ _ _ (set8 w4 w.heap.size (.int .i64 kd) (.string tx) (.int .i64 f) (.int .i64 fr) (.int .i64 en) (.bool true) (.pointer p) (.bool mk))
    generalize set8 w4 w.heap.size (.int .i64 kd) (.string tx) (.int .i64 f) (.int .i64 fr) (.int .i64 en) (.bool true) (.pointer p) (.bool mk) = W5 at K5 R5 P5 F5 v0 v1 v2 v3 v4 v5 v6 v7 ⊢
    exact bodyPost_ret (v := .tuple #[.agg #[.int .i64 kd, .string tx, .int .i64 f, .int .i64 fr, .int .i64 en, .bool true, .pointer p, .bool mk], .bool true]) (by simp [results, Tryz.results40, go_sem, v0, v1, v2, v3, v4, v5, v6, v7]) rfl ⟨p, rfl, P5, ⟨_, _, R5, HS4.out⟩, F5⟩
end Go.Proofs.YtlepnafgcmeimaaGreatDoor

/- What is proved: paramOf, pieceOf. -/
namespace Go.Proofs.YtlepnafgcmeimaaGreatDoor
open Go.RowKit Go.Shelf Go.WideMaps
open Mx (M VA isP HH HS)

set_option maxRecDepth 100000 in
set_option maxHeartbeats 4000000 in
theorem eparamOf_any (t : K) (mb N : Nat) (f : ByteArray → Option Nat) (w : World) (h : PMap w mb N f) (ht : t.text.size ≤ 1000000000) :
    Calls Tryz.prog 101 #[kAgg t, .map (some mb)] w fun e w' => e = .returned (.tuple #[.int .i64 (((f t.text).getD 0 : Nat) : Int), .bool ((f t.text).isSome && t.kind == 1)]) ∧ Below w.heap.size w w' := by
  obtain ⟨kd, tx, fl, fr, en, bl⟩ := t
  dsimp only [kAgg] at ht ⊢
  have hA : Below w.heap.size w (w.alloc (.cells #[.int .i64 kd, .string tx, .int .i64 fl, .int .i64 fr, .int .i64 en, .bool bl] 30)) := (Below.refl _ w).alloc (Nat.le_refl _) _
  have hl := (h.below hA).look tx (by unfold maxLen; omega)
  obtain ⟨a, ha⟩ : ∃ a : Int, a = (((f tx).getD 0 : Nat) : Int) := ⟨_, rfl⟩
  obtain ⟨q, hq⟩ : ∃ q, q = (f tx).isSome := ⟨_, rfl⟩
  rw [← ha, ← hq] at hl ⊢
  have HA := Lib.hid hA
  clear ha hq hA h
  go_enter Tryz.func101, Tryz.ntmps101
  cases q with
  | true =>
    go_wp2_with fail
    go_quiet (fail)
    go_wp2_with fail
    go_ret2
    simp only [Bool.true_and]
    exact ⟨rfl, Below.drewN HA.out _⟩
  | false =>
    go_wp2_with fail
    go_quiet (fail)
    go_wp2_with fail
    go_ret2
    exact ⟨rfl, Below.drewN HA.out _⟩
end Go.Proofs.YtlepnafgcmeimaaGreatDoor

/- What is proved: what pieceOf tells. -/
namespace Go.Proofs.YtlepnafgcmeimaaGreatDoor
open Go.RowKit Go.Shelf Go.WideMaps
open Mx (M VA isP HH HS)

def pcV (p : Ep.Pc) : Value := .agg #[.int .i64 p.t.kind, .string p.t.text, .int .i64 p.t.file, .int .i64 p.t.fr, .int .i64 p.t.en, .bool p.t.bl, .int .i64 (p.way : Int), .int .i64 (p.par : Int)]
/-- The boxes of pieceOf. -/
structure PcB (w0 W : World) (B : Nat) (nm : ByteArray) (fn : Bool) (pv : Value) (va : Bool) (ad : Option Addr) (n cap : Nat) (body : List K) (t : K) : Prop where
  k3 : W.heap[B]? = some (.cells #[.string nm, .bool fn, pv, .bool va, .slice ad n cap] 32 (0, 0))
  k6 : W.heap[B + 1]? = some (.cells #[.int .i64 0, .string ⟨#[]⟩, .int .i64 0, .int .i64 0, .int .i64 0, .bool false, .int .i64 0, .int .i64 0] 149 (0, 0))
  k7 : W.heap[B + 2]? = some (.cells #[.int .i64 t.kind, .string t.text, .int .i64 t.file, .int .i64 t.fr, .int .i64 t.en, .bool t.bl] 30 (0, 0))
  ks : Ks W (.slice ad n cap) body
  hB : Below w0.heap.size w0 W
  hn : w0.heap.size ≤ B
theorem PcB.call {w0 W W' : World} {B : Nat} {nm : ByteArray} {fn : Bool} {pv : Value} {va : Bool} {ad : Option Addr} {n cap : Nat} {body : List K} {t : K} (h : PcB w0 W B nm fn pv va ad n cap body t) (hb : Below W.heap.size W W') : PcB w0 W' B nm fn pv va ad n cap body t :=
  ⟨(hb.block _ (lt_of_heap h.k3)).trans h.k3, (hb.block _ (lt_of_heap h.k6)).trans h.k6, (hb.block _ (lt_of_heap h.k7)).trans h.k7, h.ks.below hb, Below.then h.hB hb, h.hn⟩
theorem below_drewN' {B : Nat} {w W : World} (h : Below B w W) (k : Nat) : Below B w (W.drewN k) := ⟨h.os, h.tape, h.output, h.size, h.block⟩
theorem mac_cells {W : World} {B : Nat} {a0 a1 a2 a3 a4 : Value} {t : TypeId} (h : W.heap[B]? = some (.cells #[a0, a1, a2, a3, a4] t (0, 0))) :
    W.cell? ⟨B, 0, none⟩ = some a0 ∧ W.cell? ⟨B, 1, none⟩ = some a1 ∧ W.cell? ⟨B, 2, none⟩ = some a2 ∧ W.cell? ⟨B, 3, none⟩ = some a3 ∧ W.cell? ⟨B, 4, none⟩ = some a4 :=
  ⟨(Lib.cell_of_heap h 0).trans rfl, (Lib.cell_of_heap h 1).trans rfl, (Lib.cell_of_heap h 2).trans rfl, (Lib.cell_of_heap h 3).trans rfl, (Lib.cell_of_heap h 4).trans rfl⟩
noncomputable def pieceBody : Code := Tryz.f92.body.getD .skip
theorem pc_end {w0 W : World} {B : Nat} {nm : ByteArray} {fn : Bool} {pv : Value} {va : Bool} {ad : Option Addr} {n cap : Nat} {body : List K} {t : K} (h : PcB w0 W B nm fn pv va ad n cap body t) (way par : Nat) (tm : Array Value) (hx : tm[6]? = some (.pointer (some ⟨B + 1, 0, none⟩))) (e : Exit) (he : e = .ret) :
    bodyPost Tryz.prog Tryz.f92 (fun e w' => e = .returned (pcV ⟨t, way, par⟩) ∧ Below w0.heap.size w0 w') e ⟨tm, []⟩ (set8 W (B + 1) (.int .i64 t.kind) (.string t.text) (.int .i64 t.file) (.int .i64 t.fr) (.int .i64 t.en) (.bool t.bl) (.int .i64 (way : Int)) (.int .i64 (par : Int))) := by
  subst he
  have h5 := set8_at h.k6 (.int .i64 t.kind) (.string t.text) (.int .i64 t.file) (.int .i64 t.fr) (.int .i64 t.en) (.bool t.bl) (.int .i64 (way : Int)) (.int .i64 (par : Int))
  have hb := set8_below (n := w0.heap.size) (B := B + 1) h.hB (by have := h.hn; omega) (.int .i64 t.kind) (.string t.text) (.int .i64 t.file) (.int .i64 t.fr) (.int .i64 t.en) (.bool t.bl) (.int .i64 (way : Int)) (.int .i64 (par : Int))
  generalize set8 W (B + 1) (.int .i64 t.kind) (.string t.text) (.int .i64 t.file) (.int .i64 t.fr) (.int .i64 t.en) (.bool t.bl) (.int .i64 (way : Int)) (.int .i64 (par : Int)) = W5 at h5 hb ⊢
  obtain ⟨v0, v1, v2, v3, v4, v5, v6, v7, -⟩ := box8_cells h5
  exact bodyPost_ret (v := pcV ⟨t, way, par⟩) (by simp [results, Tryz.results92, go_sem, v0, v1, v2, v3, v4, v5, v6, v7, hx, pcV]) rfl ⟨rfl, hb⟩

set_option maxRecDepth 100000 in
set_option maxHeartbeats 4000000 in
theorem pc_tail4 (w0 W : World) (B mb N i : Nat) (m : M) (pv : Value) (ad : Option Addr) (cap : Nat) (t : K) (c0 c4 c5 c8 c9 c10 c11 c12 c13 c14 c15 c16 c17 c18 c19 c20 c21 c22 c23 c24 c25 c26 c27 c28 c29 c30 c31 c32 c33 c34 c35 c36 c37 c38 c39 c40 c41 c42 c43 c44 c45 c46 c47 c48 c49 c50 c51 c52 c53 c54 c55 c56 c57 c58 c59 c60 c61 c62 c63 c64 c65 c66 c67 c68 c69 c70 c71 c72 c73 c74 c75 c76 c77 c78 c79 c80 c81 c82 c83 c84 c85 c86 c87 c88 c89 : Value)
    (h : PcB w0 W B m.name m.fn pv m.va ad m.body.length cap m.body t) (hm : PMap W mb N (Ep.parIx m)) (ht : m.body[i]? = some t) (hx : ∀ u ∈ m.body, u.text.size ≤ 1000000000) (hl : m.body.length ≤ 1000000) (h1 : isP t HH = false) (h2 : (isP t HS && (Ep.parIn m m.body[i + 1]?).isSome) = false) :
    Code.wp Tryz.prog (secs 4 pieceBody) (bodyPost Tryz.prog Tryz.f92 (fun e w' => e = .returned (pcV (Ep.pieceOf m i)) ∧ Below w0.heap.size w0 w')) ⟨#[c0, .map (some mb), .int .i64 i, .pointer (some ⟨B, 0, none⟩), c4, c5, .pointer (some ⟨B + 1, 0, none⟩), .pointer (some ⟨B + 2, 0, none⟩), c8, c9, c10, c11, c12, c13, c14, c15, c16, c17, c18, c19, c20, c21, c22, c23, c24, c25, c26, c27, c28, c29, c30, c31, c32, c33, c34, c35, c36, c37, c38, c39, c40, c41, c42, c43, c44, c45, c46, c47, c48, c49, c50, c51, c52, c53, c54, c55, c56, c57, c58, c59, c60, c61, c62, c63, c64, c65, c66, c67, c68, c69, c70, c71, c72, c73, c74, c75, c76, c77, c78, c79, c80, c81, c82, c83, c84, c85, c86, c87, c88, c89], []⟩ W := by
  have hi := (List.getElem?_eq_some_iff.1 ht).1
  have hP : Ep.pieceOf m i = (match Ep.parOf m t with | none => ⟨t, 0, 0⟩ | some p => if Ep.isIn (if i = 0 then none else m.body[i - 1]?) HH || Ep.isIn m.body[i + 1]? HH then ⟨t, 3, p⟩ else ⟨t, 4, p⟩) := by
    unfold Ep.pieceOf
    rw [ht]
    simp only [Ep.pieceAt, h1, h2]
    rfl
  have hpo : Ep.parOf m t = if ((Ep.parIx m t.text).isSome && t.kind == 1) then some ((Ep.parIx m t.text).getD 0) else none := by
    unfold Ep.parOf
    cases hk : (t.kind == 1) with
    | false => simp
    | true => cases Ep.parIx m t.text <;> simp
  have key := fun W' h' => eparamOf_any t mb N (Ep.parIx m) W' h' (hx t (List.mem_of_getElem? ht))
  obtain ⟨q, hq⟩ : ∃ q, q = ((Ep.parIx m t.text).isSome && t.kind == 1) := ⟨_, rfl⟩
  obtain ⟨p, hp⟩ : ∃ p, p = (Ep.parIx m t.text).getD 0 := ⟨_, rfl⟩
  rw [← hq, ← hp] at key
  rw [← hq, ← hp] at hpo
  rw [hpo] at hP
  obtain ⟨P, hPP⟩ : ∃ P, P = Ep.pieceOf m i := ⟨_, rfl⟩
  rw [← hPP] at hP ⊢
  have HP := Lib.hid hP
  have HKEY := Lib.hid key
  have H0 := Lib.hid h
  have HM := Lib.hid hm
  have HT := Lib.hid ht
  obtain ⟨c0, c1, c2, c3, c4⟩ := mac_cells h.k3
  obtain ⟨d0, d1, d2, d3, d4, d5⟩ := box6_cells h.k7
  clear hP key hPP hpo hq hp hx h1 h2 h hm ht
  refine wp_sec 4 pieceBody rfl ?_
  conv => arg 2; whnf
  go_wp2_with fail
  refine (HKEY.out W HM.out).mono ?_
  rintro e W1 ⟨rfl, hb1⟩
  have h1 := H0.out.call hb1
  have H1 := Lib.hid h1
  obtain ⟨c0', c1', c2', c3', c4'⟩ := mac_cells h1.k3
  obtain ⟨d0', d1', d2', d3', d4', d5'⟩ := box6_cells h1.k7
  obtain ⟨s0, s1, s2, s3, s4, s5, s6, s7, sf⟩ := box8_cells h1.k6
  clear h1 c0 c1 c2 c3 c4 d0 d1 d2 d3 d4 d5 hb1
  go_wp2_with fail
  refine wp_sec 5 pieceBody rfl ?_
  conv => arg 2; whnf
  cases q with
  | false =>
    go_wp2_with fail
    rw [show P = ⟨t, 0, 0⟩ from HP.out]
    exact pc_end H1.out 0 0 _ rfl _ rfl
  | true =>
    have hP := HP.out
    simp only [if_true] at hP
    rcases Nat.eq_zero_or_pos i with hi0 | hi0
    · rw [if_pos hi0] at hP
      simp only [Ep.isIn, Bool.false_or] at hP
      have g1 : ¬ ((0 : Int) < i) := by omega
      have g2' : decide ((0 : Int) < i) = false := decide_eq_false g1
      clear hi0
      rcases Nat.lt_or_ge (i + 1) m.body.length with hnx | hnx
      · obtain ⟨tn, htn⟩ : ∃ tn, m.body[i + 1]? = some tn := ⟨_, List.getElem?_eq_getElem hnx⟩
        obtain ⟨g2, o2, had2, e0, e1, e2, e3, e4, e5⟩ := ks_some H1.out.ks htn
        cases had2
        have HPN := Lib.hid (show P = if isP tn HH then ⟨t, 3, p⟩ else ⟨t, 4, p⟩ by
          rw [hP, htn]
          try rfl)
        obtain ⟨sn, hsn⟩ : ∃ sn, sn = isP tn HH := ⟨_, rfl⟩
        have kn := fun W' => esign_any tn HH W'
        rw [← hsn] at HPN kn
        have KN := Lib.hid kn
        have w1 : ((i : Int) + 1 < (m.body.length : Int)) := by omega
        have w2 : (0 : Int) ≤ (i : Int) + 1 := by omega
        have w3 : IntKind.i64.wrap ((i : Int) + 1) = (i : Int) + 1 := IntWalk.i64_in _ (by omega)
        have hgl := lt_of_cell e0
        obtain ⟨kd, tx, fl, fr, en, bl⟩ := tn
        dsimp only at e0 e1 e2 e3 e4 e5
        dsimp only [kAgg] at KN
        clear htn hsn kn hP hnx
        go_wp2_with fail
        refine (KN.out _).mono ?_
        rintro e W3 ⟨rfl, hb3⟩
        have h3 := H1.out.call hb3
        have H3 := Lib.hid h3
        obtain ⟨d0'', d1'', d2'', d3'', d4'', d5''⟩ := box6_cells h3.k7
        obtain ⟨s0', s1', s2', s3', s4', s5', s6', s7', sf'⟩ := box8_cells h3.k6
        clear h3 hb3
        cases sn with
        | true =>
          go_wp2_with fail
          rw [show P = ⟨t, 3, p⟩ from HPN.out]
          exact pc_end H3.out 3 p _ rfl _ rfl
        | false =>
          go_wp2_with fail
          refine wp_sec 6 pieceBody rfl ?_
          conv => arg 2; whnf
          go_wp2_with fail
          conv => arg 2; whnf
          go_wp2_with fail
          rw [show P = ⟨t, 4, p⟩ from HPN.out]
          exact pc_end H3.out 4 p _ rfl _ rfl
      · have HPN := Lib.hid (show P = ⟨t, 4, p⟩ by
          rw [hP, List.getElem?_eq_none hnx]
          try rfl)
        have w1 : ¬ ((i : Int) + 1 < (m.body.length : Int)) := by omega
        have w1b : decide ((i : Int) + 1 < (m.body.length : Int)) = false := decide_eq_false w1
        have w3 : IntKind.i64.wrap ((i : Int) + 1) = (i : Int) + 1 := IntWalk.i64_in _ (by omega)
        clear hP hnx
        go_wp2_with fail
        refine wp_sec 6 pieceBody rfl ?_
        conv => arg 2; whnf
        go_wp2_with fail
        conv => arg 2; whnf
        go_wp2_with fail
        rw [show P = ⟨t, 4, p⟩ from HPN.out]
        exact pc_end H1.out 4 p _ rfl _ rfl
    · obtain ⟨j, rfl⟩ : ∃ j, i = j + 1 := ⟨i - 1, by omega⟩
      rw [if_neg (show ¬ (j + 1 = 0) by omega), Nat.add_sub_cancel] at hP
      have hj : j < m.body.length := by omega
      obtain ⟨tp, htp⟩ : ∃ tp, m.body[j]? = some tp := ⟨_, List.getElem?_eq_getElem hj⟩
      obtain ⟨g1, o1, had1, f0, f1, f2, f3, f4, f5⟩ := ks_some H1.out.ks htp
      subst had1
      rw [htp, show Ep.isIn (some tp) HH = isP tp HH from rfl] at hP
      obtain ⟨sp, hsp⟩ : ∃ sp, sp = isP tp HH := ⟨_, rfl⟩
      have kp := fun W' => esign_any tp HH W'
      rw [← hsp] at hP kp
      have KP := Lib.hid kp
      have g3 : (0 : Int) < (j : Int) + 1 := by omega
      have g4 : ((j : Int) + 1 - 1) = j := by omega
      have g5 : IntKind.i64.wrap ((j : Int) + 1 - 1) = j := by rw [g4]; exact IntWalk.i64_in _ (by omega)
      have g6 : (j : Int) < (m.body.length : Int) := by omega
      have g7 : (0 : Int) ≤ j := by omega
      have g8 : IntKind.i64.wrap (j : Int) = j := IntWalk.i64_in _ (by omega)
      have hgl1 := lt_of_cell f0
      have HPQ := Lib.hid hP
      obtain ⟨kdp, txp, flp, frp, enp, blp⟩ := tp
      dsimp only at f0 f1 f2 f3 f4 f5
      dsimp only [kAgg] at KP
      clear htp hsp kp hP hj
      obtain ⟨nn, hnn⟩ : ∃ nn, nn = m.body.length := ⟨_, rfl⟩
      rw [← hnn] at g6 c4' hi hl
      have HNN := Lib.hid hnn
      clear hnn
      go_wp2_with fail
      refine (KP.out _).mono ?_
      rintro e W2 ⟨rfl, hb2⟩
      have h2 := H1.out.call hb2
      have H2 := Lib.hid h2
      obtain ⟨c0'', c1'', c2'', c3'', c4''⟩ := mac_cells h2.k3
      obtain ⟨d0', d1', d2', d3', d4', d5'⟩ := box6_cells h2.k7
      obtain ⟨s0, s1, s2, s3, s4, s5, s6, s7, sf⟩ := box8_cells h2.k6
      clear h2 hb2 f0 f1 f2 f3 f4 f5 c0' c1' c2' c3' c4'
      have hnn := HNN.out
      subst hnn
      cases sp with
      | true =>
        go_wp2_with fail
        rw [show P = ⟨t, 3, p⟩ from HPQ.out]
        exact pc_end H2.out 3 p _ rfl _ rfl
      | false =>
        have hP := HPQ.out
        rw [Bool.false_or] at hP
        clear KP g3 g4 g5 g6 g7 g8
        rcases Nat.lt_or_ge ((j + 1) + 1) m.body.length with hnx | hnx
        · obtain ⟨tn, htn⟩ : ∃ tn, m.body[(j + 1) + 1]? = some tn := ⟨_, List.getElem?_eq_getElem hnx⟩
          obtain ⟨g2, o2, had2, e0, e1, e2, e3, e4, e5⟩ := ks_some H2.out.ks htn
          cases had2
          have HPN := Lib.hid (show P = if isP tn HH then ⟨t, 3, p⟩ else ⟨t, 4, p⟩ by
            rw [hP, htn]
            try rfl)
          obtain ⟨sn, hsn⟩ : ∃ sn, sn = isP tn HH := ⟨_, rfl⟩
          have kn := fun W' => esign_any tn HH W'
          rw [← hsn] at HPN kn
          have KN := Lib.hid kn
          have w1 : (((j : Int) + 1) + 1 < (m.body.length : Int)) := by omega
          have w2 : (0 : Int) ≤ ((j : Int) + 1) + 1 := by omega
          have w3 : IntKind.i64.wrap (((j : Int) + 1) + 1) = ((j : Int) + 1) + 1 := IntWalk.i64_in _ (by omega)
          have hgl := lt_of_cell e0
          obtain ⟨kd, tx, fl, fr, en, bl⟩ := tn
          dsimp only at e0 e1 e2 e3 e4 e5
          dsimp only [kAgg] at KN
          clear htn hsn kn hP hnx
          go_wp2_with fail
          refine (KN.out _).mono ?_
          rintro e W3 ⟨rfl, hb3⟩
          have h3 := H2.out.call hb3
          have H3 := Lib.hid h3
          obtain ⟨d0'', d1'', d2'', d3'', d4'', d5''⟩ := box6_cells h3.k7
          obtain ⟨s0', s1', s2', s3', s4', s5', s6', s7', sf'⟩ := box8_cells h3.k6
          clear h3 hb3
          cases sn with
          | true =>
            go_wp2_with fail
            rw [show P = ⟨t, 3, p⟩ from HPN.out]
            exact pc_end H3.out 3 p _ rfl _ rfl
          | false =>
            go_wp2_with fail
            refine wp_sec 6 pieceBody rfl ?_
            conv => arg 2; whnf
            go_wp2_with fail
            conv => arg 2; whnf
            go_wp2_with fail
            rw [show P = ⟨t, 4, p⟩ from HPN.out]
            exact pc_end H3.out 4 p _ rfl _ rfl
        · have HPN := Lib.hid (show P = ⟨t, 4, p⟩ by
            rw [hP, List.getElem?_eq_none hnx]
            try rfl)
          have w1 : ¬ (((j : Int) + 1) + 1 < (m.body.length : Int)) := by omega
          have w1b : decide (((j : Int) + 1) + 1 < (m.body.length : Int)) = false := decide_eq_false w1
          have w3 : IntKind.i64.wrap (((j : Int) + 1) + 1) = ((j : Int) + 1) + 1 := IntWalk.i64_in _ (by omega)
          clear hP hnx
          go_wp2_with fail
          refine wp_sec 6 pieceBody rfl ?_
          conv => arg 2; whnf
          go_wp2_with fail
          conv => arg 2; whnf
          go_wp2_with fail
          rw [show P = ⟨t, 4, p⟩ from HPN.out]
          exact pc_end H2.out 4 p _ rfl _ rfl
end Go.Proofs.YtlepnafgcmeimaaGreatDoor

/- What is proved: what pieceOf tells: the whole. -/
namespace Go.Proofs.YtlepnafgcmeimaaGreatDoor
open Go.RowKit Go.Shelf Go.WideMaps
open Mx (M VA isP HH HS)

set_option maxRecDepth 100000 in
set_option maxHeartbeats 4000000 in
theorem epiece_any (v : Value) (m : M) (mb N i : Nat) (w : World) (hv : MacV w v m) (hm : PMap w mb N (Ep.parIx m)) (hi : i < m.body.length) (hx : ∀ u ∈ m.body, u.text.size ≤ 1000000000) (hl : m.body.length ≤ 1000000) :
    Calls Tryz.prog 92 #[v, .map (some mb), .int .i64 i] w fun e w' => e = .returned (pcV (Ep.pieceOf m i)) ∧ Below w.heap.size w w' := by
  obtain ⟨pv, bv, rfl, hp, hb⟩ := hv
  obtain ⟨ad, cap, rfl, hc1, hc2, -⟩ := id hb
  obtain ⟨t, ht⟩ : ∃ t, m.body[i]? = some t := ⟨_, List.getElem?_eq_getElem hi⟩
  have hP0 : Ep.pieceOf m i = Ep.pieceAt m (if i = 0 then none else m.body[i - 1]?) t m.body[i + 1]? := by unfold Ep.pieceOf; rw [ht]
  have TL := Lib.hid (fun (W : World) (h : PcB w W w.heap.size m.name m.fn pv m.va ad m.body.length cap m.body t) (hmm : PMap W mb N (Ep.parIx m)) (h1 : isP t HH = false) (h2 : (isP t HS && (Ep.parIn m m.body[i + 1]?).isSome) = false) (c0 c4 c5 c8 c9 c10 c11 c12 c13 c14 c15 c16 c17 c18 c19 c20 c21 c22 c23 c24 c25 c26 c27 c28 c29 c30 c31 c32 c33 c34 c35 c36 c37 c38 c39 c40 c41 c42 c43 c44 c45 c46 c47 c48 c49 c50 c51 c52 c53 c54 c55 c56 c57 c58 c59 c60 c61 c62 c63 c64 c65 c66 c67 c68 c69 c70 c71 c72 c73 c74 c75 c76 c77 c78 c79 c80 c81 c82 c83 c84 c85 c86 c87 c88 c89 : Value) =>
    pc_tail4 w W w.heap.size mb N i m pv ad cap t c0 c4 c5 c8 c9 c10 c11 c12 c13 c14 c15 c16 c17 c18 c19 c20 c21 c22 c23 c24 c25 c26 c27 c28 c29 c30 c31 c32 c33 c34 c35 c36 c37 c38 c39 c40 c41 c42 c43 c44 c45 c46 c47 c48 c49 c50 c51 c52 c53 c54 c55 c56 c57 c58 c59 c60 c61 c62 c63 c64 c65 c66 c67 c68 c69 c70 c71 c72 c73 c74 c75 c76 c77 c78 c79 c80 c81 c82 c83 c84 c85 c86 c87 c88 c89 h hmm ht hx hl h1 h2)
  obtain ⟨g, o, had, d0, d1, d2, d3, d4, d5⟩ := ks_some hb ht
  subst had
  have hgl := lt_of_cell d0
  have b3 := heap_alloc2_old w (.cells #[.string m.name, .bool m.fn, pv, .bool m.va, .slice (some ⟨g, o, none⟩) m.body.length cap] 32) (.cells #[.int .i64 0, .string ⟨#[]⟩, .int .i64 0, .int .i64 0, .int .i64 0, .bool false, .int .i64 0, .int .i64 0] 149)
  have b6 := heap_alloc2_new w (.cells #[.string m.name, .bool m.fn, pv, .bool m.va, .slice (some ⟨g, o, none⟩) m.body.length cap] 32) (.cells #[.int .i64 0, .string ⟨#[]⟩, .int .i64 0, .int .i64 0, .int .i64 0, .bool false, .int .i64 0, .int .i64 0] 149)
  have hB0 : Below w.heap.size w ((w.alloc (.cells #[.string m.name, .bool m.fn, pv, .bool m.va, .slice (some ⟨g, o, none⟩) m.body.length cap] 32)).alloc (.cells #[.int .i64 0, .string ⟨#[]⟩, .int .i64 0, .int .i64 0, .int .i64 0, .bool false, .int .i64 0, .int .i64 0] 149)) := ((Below.refl _ w).alloc (Nat.le_refl _) _).alloc (by simp) _
  have hsz : ((w.alloc (.cells #[.string m.name, .bool m.fn, pv, .bool m.va, .slice (some ⟨g, o, none⟩) m.body.length cap] 32)).alloc (.cells #[.int .i64 0, .string ⟨#[]⟩, .int .i64 0, .int .i64 0, .int .i64 0, .bool false, .int .i64 0, .int .i64 0] 149)).heap.size = w.heap.size + 2 := by simp
  have y1 : (0 : Int) ≤ i := by omega
  have y2 : (i : Int) < (m.body.length : Int) := by omega
  go_enter Tryz.func92, Tryz.ntmps92
  show Code.wp Tryz.prog (secs 0 pieceBody) _ _ _
  refine wp_sec 0 pieceBody rfl ?_
  conv => arg 2; whnf
  go_wp2_with fail
  generalize ((w.alloc (.cells #[.string m.name, .bool m.fn, pv, .bool m.va, .slice (some ⟨g, o, none⟩) m.body.length cap] 32)).alloc (.cells #[.int .i64 0, .string ⟨#[]⟩, .int .i64 0, .int .i64 0, .int .i64 0, .bool false, .int .i64 0, .int .i64 0] 149)) = W0 at b3 b6 hB0 hsz ⊢
  have hks := hb.below hB0
  have hm0 := hm.below hB0
  obtain ⟨g', o', had, d0', d1', d2', d3', d4', d5'⟩ := ks_some hks ht
  cases had
  obtain ⟨c0, c1, c2, c3, c4⟩ := mac_cells b3
  have k7 := heap_alloc_new W0 (.cells #[.int .i64 t.kind, .string t.text, .int .i64 t.file, .int .i64 t.fr, .int .i64 t.en, .bool t.bl] 30)
  have hA : Below W0.heap.size W0 (W0.alloc (.cells #[.int .i64 t.kind, .string t.text, .int .i64 t.file, .int .i64 t.fr, .int .i64 t.en, .bool t.bl] 30)) := (Below.refl _ _).alloc (Nat.le_refl _) _
  rw [hsz] at k7
  have hpcb : PcB w (W0.alloc (.cells #[.int .i64 t.kind, .string t.text, .int .i64 t.file, .int .i64 t.fr, .int .i64 t.en, .bool t.bl] 30)) w.heap.size m.name m.fn pv m.va (some ⟨g, o, none⟩) m.body.length cap m.body t :=
    ⟨(hA.block _ (lt_of_heap b3)).trans b3, (hA.block _ (lt_of_heap b6)).trans b6, k7, hks.below hA, Below.then hB0 hA, Nat.le_refl _⟩
  have hm1 := hm0.below hA
  have HPCB := Lib.hid hpcb
  have HM1 := Lib.hid hm1
  have HP0 := Lib.hid hP0
  have HX := Lib.hid hx
  have HT := Lib.hid ht
  have HSZ := Lib.hid hsz
  clear hp hb hm d0 d1 d2 d3 d4 d5 b3 b6 hB0 hks hm0 k7 hpcb hm1 hP0 hx ht hA hc1 hc2
  refine wp_sec 1 pieceBody rfl ?_
  conv => arg 2; whnf
  go_wp2_with fail
  generalize (W0.alloc (.cells #[.int .i64 t.kind, .string t.text, .int .i64 t.file, .int .i64 t.fr, .int .i64 t.en, .bool t.bl] 30)) = W1 at HPCB HM1 ⊢
  clear d0' d1' d2' d3' d4' d5' c0 c1 c2 c3 c4 hsz
  obtain ⟨x0, x1, x2, x3, x4, x5⟩ := box6_cells HPCB.out.k7
  obtain ⟨a1, ha1⟩ : ∃ a1, a1 = isP t HH := ⟨_, rfl⟩
  have k1 := fun W' => esign_any t HH W'
  rw [← ha1] at k1
  have K1 := Lib.hid k1
  have HA1 := Lib.hid ha1
  clear k1 ha1
  refine wp_sec 2 pieceBody rfl ?_
  conv => arg 2; whnf
  go_wp2_with fail
  refine (K1.out _).mono ?_
  rintro e W2 ⟨rfl, hb2⟩
  have h2 := HPCB.out.call hb2
  have hm2 := HM1.out.below hb2
  obtain ⟨c0, c1, c2, c3, c4⟩ := mac_cells h2.k3
  obtain ⟨d0, d1, d2, d3, d4, d5⟩ := box6_cells h2.k7
  obtain ⟨s0, s1, s2, s3, s4, s5, s6, s7, sf⟩ := box8_cells h2.k6
  have H2 := Lib.hid h2
  have HM2 := Lib.hid hm2
  clear x0 x1 x2 x3 x4 x5 h2 hm2 hb2
  cases a1 with
  | true =>
    go_wp2_with fail
    rw [HP0.out, show Ep.pieceAt m (if i = 0 then none else m.body[i - 1]?) t m.body[i + 1]? = ⟨t, 1, 0⟩ by unfold Ep.pieceAt; rw [← HA1.out]; rfl]
    exact pc_end H2.out 1 0 _ rfl _ rfl
  | false =>
    go_wp2_with fail
    obtain ⟨a2, ha2⟩ : ∃ a2, a2 = isP t HS := ⟨_, rfl⟩
    have k2 := fun W' => esign_any t HS W'
    rw [← ha2] at k2
    have K2 := Lib.hid k2
    have HA2 := Lib.hid ha2
    clear k2 ha2
    refine wp_sec 3 pieceBody rfl ?_
    conv => arg 2; whnf
    go_wp2_with fail
    refine (K2.out _).mono ?_
    rintro e W3 ⟨rfl, hb3⟩
    have h3 := H2.out.call hb3
    have hm3 := HM2.out.below hb3
    obtain ⟨c0', c1', c2', c3', c4'⟩ := mac_cells h3.k3
    obtain ⟨d0', d1', d2', d3', d4', d5'⟩ := box6_cells h3.k7
    obtain ⟨s0', s1', s2', s3', s4', s5', s6', s7', sf'⟩ := box8_cells h3.k6
    have H3 := Lib.hid h3
    have HM3 := Lib.hid hm3
    clear c0 c1 c2 c3 c4 d0 d1 d2 d3 d4 d5 s0 s1 s2 s3 s4 s5 s6 s7 sf h3 hm3 hb3
    cases a2 with
    | false =>
      go_wp2_with fail
      exact TL.out W3 H3.out HM3.out HA1.out.symm (by rw [← HA2.out]; rfl) _ _ _ _ _ _ _ _ _ _ _ _ _ _ _ _ _ _ _ _ _ _ _ _ _ _ _ _ _ _ _ _ _ _ _ _ _ _ _ _ _ _ _ _ _ _ _ _ _ _ _ _ _ _ _ _ _ _ _ _ _ _ _ _ _ _ _ _ _ _ _ _ _ _ _ _ _ _ _ _ _ _ _ _ _
    | true =>
      have w3 : IntKind.i64.wrap ((i : Int) + 1) = (i : Int) + 1 := IntWalk.i64_in _ (by omega)
      have w2 : (0 : Int) ≤ (i : Int) + 1 := by omega
      rcases Nat.lt_or_ge (i + 1) m.body.length with hnx | hnx
      · obtain ⟨tn, htn⟩ : ∃ tn, m.body[i + 1]? = some tn := ⟨_, List.getElem?_eq_getElem hnx⟩
        obtain ⟨g2, o2, had2, e0, e1, e2, e3, e4, e5⟩ := ks_some H3.out.ks htn
        cases had2
        have hgl2 := lt_of_cell e0
        have w1 : ((i : Int) + 1 < (m.body.length : Int)) := by omega
        have kp := fun W' h' => eparamOf_any tn mb N (Ep.parIx m) W' h' (HX.out tn (List.mem_of_getElem? htn))
        obtain ⟨q, hq⟩ : ∃ q, q = ((Ep.parIx m tn.text).isSome && tn.kind == 1) := ⟨_, rfl⟩
        obtain ⟨p, hp⟩ : ∃ p, p = (Ep.parIx m tn.text).getD 0 := ⟨_, rfl⟩
        rw [← hq, ← hp] at kp
        have hpo : Ep.parIn m m.body[i + 1]? = if q then some p else none := by
          rw [htn, hq, hp]
          show Ep.parOf m tn = _
          unfold Ep.parOf
          cases hk : (tn.kind == 1) with
          | false => simp
          | true => cases Ep.parIx m tn.text <;> simp
        have HPO := Lib.hid hpo
        have KP := Lib.hid kp
        obtain ⟨kd, tx, fl, fr, en, bl⟩ := tn
        dsimp only at e0 e1 e2 e3 e4 e5
        dsimp only [kAgg] at KP
        clear htn hq hp hpo kp
        go_wp2_with fail
        refine (KP.out _ HM3.out).mono ?_
        rintro e W4 ⟨rfl, hb4⟩
        have h4 := H3.out.call hb4
        have hm4 := HM3.out.below hb4
        obtain ⟨r0, r1, r2, r3, r4, r5⟩ := box6_cells h4.k7
        obtain ⟨q0, q1, q2, q3, q4, q5, q6, q7, qf⟩ := box8_cells h4.k6
        have H4 := Lib.hid h4
        have HM4 := Lib.hid hm4
        clear c0' c1' c2' c3' c4' d0' d1' d2' d3' d4' d5' s0' s1' s2' s3' s4' s5' s6' s7' sf' e0 e1 e2 e3 e4 e5 h4 hm4 hb4
        cases q with
        | true =>
          go_wp2_with fail
          rw [HP0.out, show Ep.pieceAt m (if i = 0 then none else m.body[i - 1]?) t m.body[i + 1]? = ⟨t, 2, p⟩ by
            unfold Ep.pieceAt; rw [← HA1.out, ← HA2.out, HPO.out]; rfl]
          exact pc_end H4.out 2 p _ rfl _ rfl
        | false =>
          go_wp2_with fail
          exact TL.out W4 H4.out HM4.out HA1.out.symm (by rw [HPO.out]; simp) _ _ _ _ _ _ _ _ _ _ _ _ _ _ _ _ _ _ _ _ _ _ _ _ _ _ _ _ _ _ _ _ _ _ _ _ _ _ _ _ _ _ _ _ _ _ _ _ _ _ _ _ _ _ _ _ _ _ _ _ _ _ _ _ _ _ _ _ _ _ _ _ _ _ _ _ _ _ _ _ _ _ _ _ _
      · have w1 : ¬ ((i : Int) + 1 < (m.body.length : Int)) := by omega
        have w1b : decide ((i : Int) + 1 < (m.body.length : Int)) = false := decide_eq_false w1
        have HNO := Lib.hid (show (isP t HS && (Ep.parIn m m.body[i + 1]?).isSome) = false by rw [List.getElem?_eq_none hnx]; simp [Ep.parIn])
        clear hnx
        go_wp2_with fail
        exact TL.out W3 H3.out HM3.out HA1.out.symm HNO.out _ _ _ _ _ _ _ _ _ _ _ _ _ _ _ _ _ _ _ _ _ _ _ _ _ _ _ _ _ _ _ _ _ _ _ _ _ _ _ _ _ _ _ _ _ _ _ _ _ _ _ _ _ _ _ _ _ _ _ _ _ _ _ _ _ _ _ _ _ _ _ _ _ _ _ _ _ _ _ _ _ _ _ _ _
end Go.Proofs.YtlepnafgcmeimaaGreatDoor

/- Plans: plain facts; in memory. -/
namespace Go.Proofs.YtlepnafgcmeimaaGreatDoor
open Go.RowKit Go.Shelf Go.WideMaps
open Mx (M)

/-! ### plainly -/
theorem lastIx_lt (s : ByteArray) : ∀ (l : List ByteArray) (i p : Nat), Ep.lastIx s l i = some p → p < i + l.length
  | [], i, p, h => by cases h
  | a :: r, i, p, h => by
    rw [Ep.lastIx] at h
    split at h
    · rename_i j hj
      injection h with h
      subst h
      have := lastIx_lt s r (i + 1) j hj
      simp; omega
    · split at h
      · injection h with h; subst h; simp
      · cases h
theorem parIx_le {m : M} {s : ByteArray} {p : Nat} (h : Ep.parIx m s = some p) : p ≤ m.ps.length := by
  unfold Ep.parIx at h
  split at h
  · split at h
    · injection h with h; omega
    · have := lastIx_lt _ _ _ _ h; omega
  · cases h
theorem parOf_le {m : M} {t : K} {p : Nat} (h : Ep.parOf m t = some p) : p ≤ m.ps.length := by
  unfold Ep.parOf at h
  split at h
  · exact parIx_le h
  · cases h
theorem pieceOf_le (m : M) (i : Nat) : (Ep.pieceOf m i).par ≤ m.ps.length ∧ (Ep.pieceOf m i).way ≤ 4 := by
  unfold Ep.pieceOf
  split
  · exact ⟨Nat.zero_le _, Nat.zero_le _⟩
  · rename_i t _
    unfold Ep.pieceAt
    split
    · exact ⟨Nat.zero_le _, by show 1 ≤ 4; omega⟩
    · split
      · refine ⟨?_, by show 2 ≤ 4; omega⟩
        dsimp only
        cases hp : Ep.parIn m m.body[i + 1]? with
        | none => exact Nat.zero_le _
        | some p =>
          unfold Ep.parIn at hp
          split at hp
          · exact parOf_le hp
          · cases hp
      · cases hp : Ep.parOf m t with
        | none => exact ⟨Nat.zero_le _, Nat.zero_le _⟩
        | some p =>
          dsimp only
          generalize (Ep.isIn (if i = 0 then none else m.body[i - 1]?) Mx.HH || Ep.isIn m.body[i + 1]? Mx.HH) = c
          cases c
          · exact ⟨parOf_le hp, by show 4 ≤ 4; omega⟩
          · exact ⟨parOf_le hp, by show 3 ≤ 4; omega⟩
theorem uses_snoc (w : Nat) (P : List Ep.Pc) (p : Ep.Pc) (i : Nat) : Ep.uses w (P ++ [p]) i = (Ep.uses w P i || (p.way == w && p.par == i)) := by
  simp [Ep.uses]
/-- What is planned so far, and what is still to be. -/
def PlSt (m : M) (i : Nat) (P : List Ep.Pc) : Prop := P.length ≤ i ∧ ∃ f, m.body.length ≤ i + f ∧ Ep.pieces m = P ++ Ep.pcs m f i
theorem plSt_start (m : M) : PlSt m 0 [] := ⟨Nat.le_refl _, m.body.length, by omega, rfl⟩
theorem plSt_step {m : M} {i : Nat} {P : List Ep.Pc} (h : PlSt m i P) (hi : i < m.body.length) : PlSt m (if (Ep.pieceOf m i).way = 2 then i + 2 else i + 1) (P ++ [Ep.pieceOf m i]) := by
  obtain ⟨h1, f, h2, h3⟩ := h
  refine ⟨by rw [List.length_append, List.length_singleton]; split <;> omega, ?_⟩
  cases f with
  | zero => omega
  | succ f =>
    refine ⟨f, by split <;> omega, ?_⟩
    rw [h3, Ep.pcs, if_pos hi, List.append_assoc, List.singleton_append]
theorem plSt_end {m : M} {i : Nat} {P : List Ep.Pc} (h : PlSt m i P) (hi : m.body.length ≤ i) : P = Ep.pieces m := by
  obtain ⟨_, f, _, h3⟩ := h
  rw [h3]
  cases f with
  | zero => simp [Ep.pcs]
  | succ f => rw [Ep.pcs, if_neg (by omega), List.append_nil]

/-! ### in memory -/
def pcCells1 (p : Ep.Pc) : List Value := [.int .i64 p.t.kind, .string p.t.text, .int .i64 p.t.file, .int .i64 p.t.fr, .int .i64 p.t.en, .bool p.t.bl, .int .i64 (p.way : Int), .int .i64 (p.par : Int)]
def pcCells : List Ep.Pc → List Value
  | [] => []
  | p :: r => pcCells1 p ++ pcCells r
theorem pcCells_append (a b : List Ep.Pc) : pcCells (a ++ b) = pcCells a ++ pcCells b := by
  induction a with
  | nil => rfl
  | cons x r ih => simp [pcCells, ih]
theorem pcCells_get (a : List Ep.Pc) : ∀ i p, a[i]? = some p → ∀ j v, (pcCells1 p)[j]? = some v → (pcCells a)[i * 8 + j]? = some v := by
  induction a with
  | nil => intro i x h; simp at h
  | cons y r ih =>
    intro i t h j v hj
    have h8 : (pcCells1 y).length = 8 := rfl
    cases i with
    | zero =>
      simp at h; subst h
      have hlt := (List.getElem?_eq_some_iff.1 hj).1
      rw [pcCells, List.getElem?_append_left (by omega), Nat.zero_mul, Nat.zero_add]
      exact hj
    | succ i =>
      simp at h
      rw [pcCells, List.getElem?_append_right (by omega), h8, show (i + 1) * 8 + j - 8 = i * 8 + j by omega]
      exact ih i t h j v hj
/-- What a body asks of its arguments, in cells. -/
def usCells (k : Nat) (P : List Ep.Pc) : List Value := (List.range (k * 2)).map fun j => .bool (if j % 2 = 0 then Ep.uses 4 P (j / 2) else Ep.uses 2 P (j / 2))
theorem usCells_get (k : Nat) (P : List Ep.Pc) (j : Nat) (hj : j < k * 2) : (usCells k P)[j]? = some (.bool (if j % 2 = 0 then Ep.uses 4 P (j / 2) else Ep.uses 2 P (j / 2))) := by
  simp [usCells, hj]
theorem usCells_len (k : Nat) (P : List Ep.Pc) : (usCells k P).length = k * 2 := by simp [usCells]
theorem usCells_made (k : Nat) : (madeCells #[.bool false, .bool false] (k * 2)).toList = usCells k [] := by
  apply List.ext_getElem?
  intro j
  by_cases hj : j < k * 2
  · rw [usCells_get k [] j hj]
    have : j % 2 < 2 := Nat.mod_lt _ (by omega)
    rcases (by omega : j % 2 = 0 ∨ j % 2 = 1) with h | h
    · simp [madeCells, hj, h, Ep.uses]
    · simp [madeCells, hj, h, Ep.uses]
  · rw [List.getElem?_eq_none (by simp [madeCells]; omega), List.getElem?_eq_none (by rw [usCells_len]; omega)]
theorem usCells_same (k : Nat) (P : List Ep.Pc) (p : Ep.Pc) (h2 : p.way ≠ 2) (h4 : p.way ≠ 4) : usCells k (P ++ [p]) = usCells k P := by
  apply List.ext_getElem?
  intro j
  by_cases hj : j < k * 2
  · rw [usCells_get _ _ j hj, usCells_get _ _ j hj, uses_snoc, uses_snoc]
    have e2 : (p.way == 2) = false := by simpa using h2
    have e4 : (p.way == 4) = false := by simpa using h4
    rw [e2, e4]
    simp
  · rw [List.getElem?_eq_none (by rw [usCells_len]; omega), List.getElem?_eq_none (by rw [usCells_len]; omega)]
theorem usCells_set (k : Nat) (P : List Ep.Pc) (p : Ep.Pc) (o : Nat) (hw : (p.way = 4 ∧ o = 0) ∨ (p.way = 2 ∧ o = 1)) : (usCells k P).set (p.par * 2 + o) (.bool true) = usCells k (P ++ [p]) := by
  apply List.ext_getElem?
  intro j
  by_cases hj : j < k * 2
  · rw [usCells_get _ _ j hj, List.getElem?_set, uses_snoc, uses_snoc]
    by_cases e : p.par * 2 + o = j
    · subst e
      rw [if_pos rfl, if_pos (by rw [usCells_len]; exact hj)]
      rcases hw with ⟨h, rfl⟩ | ⟨h, rfl⟩
      · rw [h]; simp
      · rw [h]
        have e1 : (p.par * 2 + 1) % 2 = 1 := by omega
        have e2 : (p.par * 2 + 1) / 2 = p.par := by omega
        simp [e1, e2]
    · rw [if_neg e, usCells_get _ _ j hj]
      congr 2
      rcases hw with ⟨h, rfl⟩ | ⟨h, rfl⟩
      · rw [h]
        by_cases hm : j % 2 = 0
        · rw [if_pos hm, if_pos hm]
          have : (p.par == j / 2) = false := by simp; omega
          rw [this]; simp
        · rw [if_neg hm, if_neg hm]; simp
      · rw [h]
        by_cases hm : j % 2 = 0
        · rw [if_pos hm, if_pos hm]; simp
        · rw [if_neg hm, if_neg hm]
          have : (p.par == j / 2) = false := by simp; omega
          rw [this]; simp
  · rw [List.getElem?_eq_none (by rw [List.length_set, usCells_len]; omega), List.getElem?_eq_none (by rw [usCells_len]; omega)]
/-- A plan in memory. -/
structure PlW (W : World) (n0 pb num : Nat) (sv uv : Value) (P U : List Ep.Pc) (k : Nat) : Prop where
  blk : W.heap[pb]? = some (.cells #[.int .i64 (num : Int), sv, uv] 113 (0, 0))
  hb : n0 ≤ pb
  srow : W.ownsRow n0 149 8 sv P.length (pcCells P)
  urow : W.ownsRow n0 144 2 uv k (usCells k U)
theorem infoPc : (Tryz.prog.info? 149).map (fun i => (i.zero, i.size, i.bytes)) = some (some (.agg #[.int .i64 0, .string ByteArray.empty, .int .i64 0, .int .i64 0, .int .i64 0, .bool false, .int .i64 0, .int .i64 0]), 8, 72) := by kernel_rfl
theorem infoUse : (Tryz.prog.info? 144).map (fun i => (i.zero, i.size, i.bytes)) = some (some (.agg #[.bool false, .bool false]), 2, 2) := by kernel_rfl
theorem row_heapK {W W' : World} {B e sz n : Nat} {v : Value} {cs : List Value} (h : W.ownsRow B e sz v n cs) (hk : Kept e W W') : W'.ownsRow B e sz v n cs := by
  refine ⟨h.1, ?_⟩
  rcases h.2 with h' | ⟨g, cap, cur, h', h1, h2, h3⟩
  · exact .inl h'
  · exact .inr ⟨g, cap, cur, h', h1, hk g _ _ h2, h3⟩
theorem PlW.keep {W W' : World} {n0 pb num : Nat} {sv uv : Value} {P U : List Ep.Pc} {k : Nat} (h : PlW W n0 pb num sv uv P U k) (h1 : Kept 113 W W') (h2 : Kept 149 W W') (h3 : Kept 144 W W') : PlW W' n0 pb num sv uv P U k :=
  ⟨h1 _ _ _ h.blk, h.hb, row_heapK h.srow h2, row_heapK h.urow h3⟩
theorem PlW.below {W W' : World} {n0 pb num : Nat} {sv uv : Value} {P U : List Ep.Pc} {k : Nat} (h : PlW W n0 pb num sv uv P U k) (hb : Below W.heap.size W W') : PlW W' n0 pb num sv uv P U k := h.keep (Kept.of_below hb _) (Kept.of_below hb _) (Kept.of_below hb _)
end Go.Proofs.YtlepnafgcmeimaaGreatDoor

/- What is proved: what planOf tells. -/
namespace Go.Proofs.YtlepnafgcmeimaaGreatDoor
open Go.RowKit Go.Shelf Go.WideMaps
open Mx (M)

theorem PMap.block {W W' : World} {mb N : Nat} {f : ByteArray → Option Nat} (h : PMap W mb N f) (e : W'.heap[mb]? = W.heap[mb]?) : PMap W' mb N f := by
  obtain ⟨D, ⟨es, clock, hb, r⟩, h2⟩ := h
  exact ⟨D, ⟨es, clock, e.trans hb, r⟩, h2⟩
noncomputable def planBody : Code := Tryz.f78.body.getD .skip
/-- The loop's state. -/
structure PlL (w0 W : World) (n0 pb num : Nat) (uv : Value) (k mb N : Nat) (m : M) (pv : Value) (ad : Option Addr) (cap : Nat) (P U : List Ep.Pc) (sv : Value) : Prop where
  pl : PlW W n0 pb num sv uv P U k
  bx : W.heap[w0.heap.size]? = some (.cells #[.string m.name, .bool m.fn, pv, .bool m.va, .slice ad m.body.length cap] 32 (0, 0))
  mp : PMap W mb N (Ep.parIx m)
  bl : Below w0.heap.size w0 W
  hn : w0.heap.size < n0
section
variable {w0 W W' : World} {n0 pb num : Nat} {uv : Value} {k mb N : Nat} {m : M} {pv : Value} {ad : Option Addr} {cap : Nat} {P U : List Ep.Pc} {sv : Value}
theorem PlL.call (h : PlL w0 W n0 pb num uv k mb N m pv ad cap P U sv) (hb : Below W.heap.size W W') : PlL w0 W' n0 pb num uv k mb N m pv ad cap P U sv :=
  ⟨h.pl.below hb, (hb.block _ (lt_of_heap h.bx)).trans h.bx, h.mp.below hb, Below.then h.bl hb, h.hn⟩
theorem row_map {n : Nat} {v : Value} {xs : List Value} {e sz B b : Nat} {es : Array MapEntry} {cl : Nat} (h : W.ownsRow B e sz v n xs) (hg : W.grownBy W' v.ownBlock) (hb : W.heap[b]? = some (.map es cl)) : W'.heap[b]? = W.heap[b]? :=
  hg.block b (lt_of_heap hb) fun e' => by
    rcases h.2 with ⟨h', _⟩ | ⟨g', cap', cur, h', _, h2', _⟩
    · rw [h'] at e'; cases e'
    · rw [h'] at e'
      simp only [Value.ownBlock, Option.some.injEq] at e'
      rw [← e', hb] at h2'
      cases h2'
/-- A piece more. -/
theorem PlL.piece {w2 : World} {tmp : Obj} {p : Ep.Pc} {g c : Nat} (h : PlL w0 W n0 pb num uv k mb N m pv ad cap P U sv) (hown : w2.ownsRow n0 149 8 (.slice (some ⟨g, 0, none⟩) (P.length + 1) c) (P.length + 1) (pcCells P ++ pcCells1 p)) (hgrow : ((W.alloc tmp).drew).grownBy w2 sv.ownBlock) :
    PlL w0 (w2.setCell ⟨pb, 1, none⟩ (.slice (some ⟨g, 0, none⟩) (P.length + 1) c)) n0 pb num uv k mb N m pv ad cap (P ++ [p]) U (.slice (some ⟨g, 0, none⟩) (P.length + 1) c) := by
  have hA : Below W.heap.size W ((W.alloc tmp).drew) := ((Below.refl _ _).alloc (Nat.le_refl _) _).drew
  have h1 := h.call hA
  generalize (W.alloc tmp).drew = X at hgrow hA h1
  have hr := h1.pl.srow
  have kP := row_kept (t := 113) hr hgrow (by decide)
  have kU := row_kept (t := 144) hr hgrow (by decide)
  have kM := row_kept (t := 32) hr hgrow (by decide)
  have b2 := kP _ _ _ h1.pl.blk
  have bx := kM _ _ _ h1.bx
  have mp : PMap w2 mb N (Ep.parIx m) := h1.mp.block (by obtain ⟨D, ⟨es, cl, hb, _⟩, _⟩ := h1.mp; exact row_map hr hgrow hb)
  have hn := h.hn
  have hpb := h.pl.hb
  refine ⟨⟨by simp [World.setCell, Array.getElem?_modify, b2], hpb, ?_, row_heapK (row_heapK h1.pl.urow kU) (Kept.set b2 (by decide))⟩, ?_, mp.block (heap_setCell_other _ _ _ _ ?_), ?_, hn⟩
  · rw [pcCells_append, List.length_append]
    refine row_heapK ?_ (Kept.set b2 (by decide))
    have : pcCells [p] = pcCells1 p := by simp [pcCells]
    rw [this]
    exact hown
  · exact (heap_setCell_other _ _ _ _ (by show w0.heap.size ≠ pb; omega)).trans bx
  · obtain ⟨D, ⟨es, cl, hb, _⟩, _⟩ := mp
    intro e
    have e : mb = pb := e
    rw [e, b2] at hb
    cases hb
  · exact (h1.bl.grown hgrow h1.bl.size (fun j e => by have := (hr.lt j e).1; omega)).setCell (by show w0.heap.size ≤ pb; omega) _
/-- One more is asked for. -/
theorem PlL.use {p : Ep.Pc} {o g c : Nat} (h : PlL w0 W n0 pb num uv k mb N m pv ad cap (P ++ [p]) P sv) (hu : uv = .slice (some ⟨g, 0, none⟩) k c) (hw : (p.way = 4 ∧ o = 0) ∨ (p.way = 2 ∧ o = 1)) :
    PlL w0 (W.setCell ⟨g, p.par * 2 + o, none⟩ (.bool true)) n0 pb num uv k mb N m pv ad cap (P ++ [p]) (P ++ [p]) sv := by
  subst hu
  obtain ⟨cs, hg, hng⟩ : ∃ cs, W.heap[g]? = some (.cells cs 144 (0, 0)) ∧ n0 ≤ g := by
    rcases h.pl.urow.2 with ⟨h', _⟩ | ⟨g', cap', cur, h', h1, h2, _⟩
    · cases h'
    · cases h'; exact ⟨_, h2, h1⟩
  have hst := (h.pl.urow.stored (p.par * 2 + o) (.bool true)).1
  rw [usCells_set k P p o hw] at hst
  have hn := h.hn
  refine ⟨⟨Kept.set hg (by decide) _ _ _ h.pl.blk, h.pl.hb, row_heapK h.pl.srow (Kept.set hg (by decide)), hst⟩, Kept.set hg (by decide) _ _ _ h.bx, h.mp.block (heap_setCell_other _ _ _ _ ?_), h.bl.setCell (by show w0.heap.size ≤ g; omega) _, hn⟩
  obtain ⟨D, ⟨es, cl, hb, _⟩, _⟩ := h.mp
  intro e
  have e : mb = g := e
  rw [e, hg] at hb
  cases hb
theorem PlL.none {p : Ep.Pc} (h : PlL w0 W n0 pb num uv k mb N m pv ad cap (P ++ [p]) P sv) (h2 : p.way ≠ 2) (h4 : p.way ≠ 4) : PlL w0 W n0 pb num uv k mb N m pv ad cap (P ++ [p]) (P ++ [p]) sv :=
  ⟨⟨h.pl.blk, h.pl.hb, h.pl.srow, by rw [usCells_same k P p h2 h4]; exact h.pl.urow⟩, h.bx, h.mp, h.bl, h.hn⟩
theorem PlL.drew (h : PlL w0 W n0 pb num uv k mb N m pv ad cap P U sv) : PlL w0 W.drew n0 pb num uv k mb N m pv ad cap P U sv := h.call ((Below.refl _ _).drew)
end
set_option maxRecDepth 100000 in
set_option maxHeartbeats 4000000 in
theorem plan_tail3 (w0 W : World) (n0 pb num : Nat) (uv : Value) (k mb N : Nat) (m : M) (pv : Value) (ad : Option Addr) (cap : Nat) (sv0 : Value) (c0 c1 c3 c4 c7 c8 c9 c10 c11 c12 c13 c14 c15 c16 c17 c18 c19 c20 c21 c22 c23 c24 c25 c26 c27 c28 c29 c30 c31 c32 c33 c34 c35 c36 c37 c38 c39 c40 c41 c42 c43 c44 c45 c46 c47 c48 c49 c50 c51 c52 c53 c54 c55 c56 c57 c58 c59 c60 c61 c62 c63 c64 : Value)
    (h : PlL w0 W n0 pb num uv k mb N m pv ad cap [] [] sv0) (hv : MacV w0 (.agg #[.string m.name, .bool m.fn, pv, .bool m.va, .slice ad m.body.length cap]) m) (hx : ∀ u ∈ m.body, u.text.size ≤ 1000000000) (hl : m.body.length ≤ 1000000) (hk : k = m.ps.length + 1) (hps : m.ps.length ≤ 1000000) :
    Code.wp Tryz.prog (secs 3 planBody) (bodyPost Tryz.prog Tryz.f78 (fun e w' => (∃ sv, e = .returned (.pointer (some ⟨pb, 0, none⟩)) ∧ PlW w' n0 pb num sv uv (Ep.pieces m) (Ep.pieces m) k) ∧ Below w0.heap.size w0 w')) ⟨#[c0, c1, .pointer (some ⟨w0.heap.size, 0, none⟩), c3, c4, .pointer (some ⟨pb, 0, none⟩), .map (some mb), c7, c8, c9, c10, c11, c12, c13, c14, c15, c16, c17, c18, c19, c20, c21, c22, c23, c24, c25, c26, c27, c28, c29, c30, c31, c32, c33, c34, c35, c36, c37, c38, c39, c40, c41, c42, c43, c44, c45, c46, c47, c48, c49, c50, c51, c52, c53, c54, c55, c56, c57, c58, c59, c60, c61, c62, c63, c64], []⟩ W := by
  obtain ⟨i0, hi, hz0, hz1, hz2⟩ := info_parts infoPc
  obtain ⟨ug, uc, rfl, -, -⟩ := h.pl.urow.form (by omega)
  have H0 := Lib.hid h
  have HV := Lib.hid hv
  have HX := Lib.hid hx
  have HK := Lib.hid hk
  have HI := Lib.hid hi
  have HZ0 := Lib.hid hz0
  have HZ1 := Lib.hid hz1
  have HZ2 := Lib.hid hz2
  clear h hv hx hk hi hz0 hz1 hz2
  refine wp_sec 3 planBody rfl ?_
  conv => arg 2; whnf
  go_wp2_with fail
  go_loopw [7] (fun a wr => ∃ (i : Nat) (P : List Ep.Pc) (sv : Value), a = .int .i64 i ∧ PlSt m i P ∧ PlL w0 wr n0 pb num (.slice (some ⟨ug, 0, none⟩) k uc) k mb N m pv ad cap P P sv ∧ i ≤ 1000001) (fun a _ => m.body.length - (intOf a).toNat)
  case atStart => exact ⟨0, [], sv0, rfl, plSt_start m, H0.out, by omega⟩
  case round =>
    obtain ⟨i, P, sv, rfl, hst, hL, hi1⟩ := hrel
    obtain ⟨c0, c1, c2, c3, c4⟩ := mac_cells hL.bx
    rcases Nat.lt_or_ge i m.body.length with hlt | hge
    · have kp := epiece_any _ m mb N i wr (HV.out.below hL.bl) hL.mp hlt HX.out hl
      obtain ⟨p, hp⟩ : ∃ p, p = Ep.pieceOf m i := ⟨_, rfl⟩
      have hst2 := plSt_step hst hlt
      obtain ⟨hp1, hp2⟩ := pieceOf_le m i
      rw [← hp] at kp hst2 hp1 hp2
      have KP := Lib.hid kp
      have HST2 := Lib.hid hst2
      have HL := Lib.hid hL
      have x1 : ((i : Int) < (m.body.length : Int)) := by omega
      have hPl : P.length ≤ 1000001 := by have := hst.1; omega
      clear kp hst2 hL hp hst
      go_wp2_with fail
      refine (KP.out).mono ?_
      rintro e W1 ⟨rfl, hb1⟩
      have hL1 := HL.out.call hb1
      have hL1' := hL1
      obtain ⟨t, way, par⟩ := p
      obtain ⟨kd, tx, fl, fr, en, bl⟩ := t
      dsimp only [pcV] at hp1 hp2 ⊢
      have hA : Below W1.heap.size W1 (W1.alloc (.cells #[.int .i64 kd, .string tx, .int .i64 fl, .int .i64 fr, .int .i64 en, .bool bl, .int .i64 (way : Int), .int .i64 (par : Int)] 149)) := (Below.refl _ _).alloc (Nat.le_refl _) _
      have hL2 := hL1.call hA
      have hbx := heap_alloc_new W1 (.cells #[.int .i64 kd, .string tx, .int .i64 fl, .int .i64 fr, .int .i64 en, .bool bl, .int .i64 (way : Int), .int .i64 (par : Int)] 149)
      have HL2 := Lib.hid hL2
      clear c0 c1 c2 c3 c4 hL1 hL2 hA hb1
      go_wp2_with fail
      have HSO := Lib.hid (show ∀ j, sv.ownBlock = some j → j < W1.heap.size from fun j e => (hL1'.pl.srow.lt j e).2)
      clear hL1'
      generalize hB8 : W1.heap.size = B8 at hbx HSO ⊢
      generalize (W1.alloc (.cells #[.int .i64 kd, .string tx, .int .i64 fl, .int .i64 fr, .int .i64 en, .bool bl, .int .i64 (way : Int), .int .i64 (par : Int)] 149)) = W2 at HL2 hbx ⊢
      clear hB8 KP
      obtain ⟨q0, q1, q2, q3, q4, q5, q6, q7, -⟩ := box8_cells hbx
      have y1 : W2.cell? ⟨pb, 1, none⟩ = some sv := (Lib.cell_of_heap HL2.out.pl.blk 1).trans rfl
      have y2 : W2.frozen? ⟨pb, 1, none⟩ = false := by simp [World.frozen?, HL2.out.pl.blk]
      have hpl := lt_of_cell y1
      have h8l := lt_of_cell q0
      dsimp only at hpl h8l
      have HC1 := Lib.hid y1
      have HF1 := Lib.hid y2
      have HRW := Lib.hid HL2.out.pl.srow
      have HOFF := Lib.hid (show some pb ≠ sv.ownBlock from fun e => by
        rcases HRW.out.2 with ⟨h', _⟩ | ⟨g', cap', cur, h', _, h2', _⟩
        · rw [h'] at e; cases e
        · rw [h'] at e
          simp only [Value.ownBlock, Option.some.injEq] at e
          rw [← e, HL2.out.pl.blk] at h2'
          cases h2')
      have HBX := Lib.hid hbx
      have hbase0 : n0 ≤ ((W2.alloc (.cells #[.int .i64 kd, .string tx, .int .i64 fl, .int .i64 fr, .int .i64 en, .bool bl, .int .i64 (way : Int), .int .i64 (par : Int)] 149)).drew).heap.size := by have := HL2.out.pl.hb; simp; omega
      have hlt0 : pb < ((W2.alloc (.cells #[.int .i64 kd, .string tx, .int .i64 fl, .int .i64 fr, .int .i64 en, .bool bl, .int .i64 (way : Int), .int .i64 (par : Int)] 149)).drew).heap.size := by simp; omega
      have HLT0 := Lib.hid hlt0
      have HC2 := Lib.hid (show ((W2.alloc (.cells #[.int .i64 kd, .string tx, .int .i64 fl, .int .i64 fr, .int .i64 en, .bool bl, .int .i64 (way : Int), .int .i64 (par : Int)] 149)).drew).cell? ⟨pb, 1, none⟩ = some sv from Lib.cell?_alloc_some _ HC1.out)
      have HF2 := Lib.hid (show ((W2.alloc (.cells #[.int .i64 kd, .string tx, .int .i64 fl, .int .i64 fr, .int .i64 en, .bool bl, .int .i64 (way : Int), .int .i64 (par : Int)] 149)).drew).frozen? ⟨pb, 1, none⟩ = false from (World.frozen?_of_block (w := W2) (a := ⟨pb, 1, none⟩) (Below.heap_alloc W2 _ pb hpl)).trans HF1.out)
      clear hlt0
      obtain ⟨L, hL⟩ : ∃ L, L = P.length := ⟨_, rfl⟩
      rw [← hL] at hPl
      have HPL := Lib.hid hL
      clear hL hbx
      rw [← HPL.out] at HRW
      go_region_law ((refine step_append_lies _ rfl (.tmp 34) (.tmp 36) 110 rfl n0 149 i0 _ 8 72 Tryz.underlying110 HI.out HZ0.out HZ1.out HZ2.out rfl (by omega) sv L (pcCells P) rfl ?_ ⟨W2.heap.size, 0, none⟩ 1 1 [.int .i64 kd, .string tx, .int .i64 fl, .int .i64 fr, .int .i64 en, .bool bl, .int .i64 (way : Int), .int .i64 (par : Int)] rfl rfl ?_ (by simp [Value.oneCell']) (by omega) (by unfold maxLen; omega) (by omega) ?_ (W2.heap.size + 1) ?_ ?_; exact ((HRW.out.alloc _).drew); exact World.news_of_block (cs := #[.int .i64 kd, .string tx, .int .i64 fl, .int .i64 fr, .int .i64 en, .bool bl, .int .i64 (way : Int), .int .i64 (par : Int)]) (t := 149) (fr := (0, 0)) (heap_alloc_new W2 _); exact hbase0; simp; intro g cap' w1 hown hgrow hat hlt1; have hc1w := (hgrow.cell_far ⟨pb, 1, none⟩ HLT0.out HOFF.out).trans HC2.out; have hfzw := (hgrow.frozen_far ⟨pb, 1, none⟩ HLT0.out HOFF.out).trans HF2.out))
      all_goals
        have hPL := HPL.out
        subst hPL
        have hbx3 : (w1.setCell ⟨pb, 1, none⟩ (.slice (some ⟨g, 0, none⟩) (P.length + 1) cap')).heap[B8]? = _ :=
          (heap_setCell_other _ ⟨pb, 1, none⟩ B8 _ (fun e => by have e : B8 = pb := e; have h1 := HBX.out; rw [e, HL2.out.pl.blk] at h1; cases h1)).trans ((hgrow.block B8 (by simp; omega) (fun e => by have := HSO.out B8 e.symm; omega)).trans ((Below.heap_alloc W2 _ B8 h8l).trans HBX.out))
        have hL3 := HL2.out.piece (p := ⟨⟨kd, tx, fl, fr, en, bl⟩, way, par⟩) hown hgrow
        generalize (w1.setCell ⟨pb, 1, none⟩ (.slice (some ⟨g, 0, none⟩) (P.length + 1) cap')) = X at hbx3 hL3 ⊢
        have HL3 := Lib.hid hL3
        obtain ⟨q0, q1, q2, q3, q4, q5, q6, q7, -⟩ := box8_cells hbx3
        have hkk := HK.out
        clear hL3 hbx3 hown hgrow hat hlt1 hc1w hfzw y1 y2 hpl h8l hbase0
        rcases (by omega : way = 2 ∨ way = 4 ∨ (way ≠ 2 ∧ way ≠ 4)) with rfl | rfl | ⟨hw2, hw4⟩
        · have hst2 := HST2.out
          rw [if_pos rfl] at hst2
          have HST3 := Lib.hid hst2
          clear hst2
          have hu := HL3.out.pl.urow.cellAt (par * 2 + 1) (show par * 2 + 1 < k * 2 by omega)
          rw [usCells_get k P _ (by omega)] at hu
          have hf := HL3.out.pl.urow.frozenAt (par * 2 + 1)
          have y3 : X.cell? ⟨pb, 2, none⟩ = some (.slice (some ⟨ug, 0, none⟩) k uc) := (Lib.cell_of_heap HL3.out.pl.blk 2).trans rfl
          have v1 : (0 : Int) ≤ par := by omega
          have v2 : (par : Int) < k := by omega
          clear hkk
          generalize (if (par * 2 + 1) % 2 = 0 then Ep.uses 4 P ((par * 2 + 1) / 2) else Ep.uses 2 P ((par * 2 + 1) / 2)) = ub at hu
          have HL4 := Lib.hid ((HL3.out.use (o := 1) rfl (.inr ⟨rfl, rfl⟩)).drew)
          go_wp2_with fail
          go_region
          go_wp2_with fail
          go_roundw
          case rel => exact ⟨i + 2, _, _, by go_num, HST3.out, HL4.out, by omega⟩
          case measure => simp [intOf]; omega
        · have hst2 := HST2.out
          rw [if_neg (by show ¬ (4 = 2); omega)] at hst2
          have HST3 := Lib.hid hst2
          clear hst2
          have hu := HL3.out.pl.urow.cellAt (par * 2 + 0) (show par * 2 + 0 < k * 2 by omega)
          rw [usCells_get k P _ (by omega)] at hu
          have hf := HL3.out.pl.urow.frozenAt (par * 2 + 0)
          rw [Nat.add_zero] at hu hf
          have y3 : X.cell? ⟨pb, 2, none⟩ = some (.slice (some ⟨ug, 0, none⟩) k uc) := (Lib.cell_of_heap HL3.out.pl.blk 2).trans rfl
          have v1 : (0 : Int) ≤ par := by omega
          have v2 : (par : Int) < k := by omega
          clear hkk
          generalize (if (par * 2) % 2 = 0 then Ep.uses 4 P ((par * 2) / 2) else Ep.uses 2 P ((par * 2) / 2)) = ub at hu
          have HL4 := Lib.hid ((HL3.out.use (o := 0) rfl (.inl ⟨rfl, rfl⟩)).drew)
          go_wp2_with fail
          go_region
          go_wp2_with fail
          go_roundw
          case rel => exact ⟨i + 1, _, _, by go_num, HST3.out, HL4.out, by omega⟩
          case measure => simp [intOf]; omega
        · have hst2 := HST2.out
          rw [if_neg hw2] at hst2
          have HST3 := Lib.hid hst2
          have HL4 := Lib.hid (HL3.out.none hw2 hw4)
          have b1 : ((way : Int) == 2) = false := beq_eq_false_iff_ne.2 (by omega)
          have b2 : ((way : Int) == 4) = false := beq_eq_false_iff_ne.2 (by omega)
          clear hst2 hw2 hw4
          go_wp2_with fail
          go_roundw
          case rel => exact ⟨i + 1, _, _, by go_num, HST3.out, HL4.out, by omega⟩
          case measure => simp [intOf]; omega
    · have hend := plSt_end hst hge
      subst hend
      have HL := Lib.hid hL
      have x1 : ¬ ((i : Int) < (m.body.length : Int)) := by omega
      have x2 : decide ((i : Int) < (m.body.length : Int)) = false := decide_eq_false x1
      clear hL hst hge
      go_wp2_with fail
      refine wp_sec 4 planBody rfl ?_
      conv => arg 2; whnf
      go_wp2_with fail
      conv => arg 2; whnf
      go_wp2_with fail
      go_ret
      exact ⟨⟨sv, rfl, HL.out.pl⟩, HL.out.bl⟩
end Go.Proofs.YtlepnafgcmeimaaGreatDoor

/- What is proved: what planOf tells: the whole. -/
namespace Go.Proofs.YtlepnafgcmeimaaGreatDoor
open Go.RowKit Go.Shelf Go.WideMaps
open Mx (M)

theorem bodyPost_mono {P : Program} {fn : Func} {R R' : Ending → World → Prop} (hR : ∀ e w, R e w → R' e w) : ∀ {e : Exit} {a : Act} {w : World}, bodyPost P fn R e a w → bodyPost P fn R' e a w := by
  intro e a w h
  cases e with
  | normal => exact ⟨h.1, h.2.choose, h.2.choose_spec.1, hR _ _ h.2.choose_spec.2⟩
  | ret => exact ⟨h.1, h.2.choose, h.2.choose_spec.1, hR _ _ h.2.choose_spec.2⟩
  | panic c => exact ⟨h.1, hR _ _ h.2⟩
  | outgrown => exact hR _ _ h
  | _ => exact h
def PlanPost (w : World) (m : M) (num : Nat) (e : Ending) (w' : World) : Prop :=
  ∃ pb sv uv, e = .returned (.pointer (some ⟨pb, 0, none⟩)) ∧ PlW w' w.heap.size pb num sv uv (Ep.pieces m) (Ep.pieces m) (m.ps.length + 1) ∧ Below w.heap.size w w'
theorem PlW.base {W : World} {n0 n1 pb num : Nat} {sv uv : Value} {P U : List Ep.Pc} {k : Nat} (h : PlW W n0 pb num sv uv P U k) (hn : n1 ≤ n0) : PlW W n1 pb num sv uv P U k :=
  ⟨h.blk, Nat.le_trans hn h.hb, ⟨h.srow.1, by
    rcases h.srow.2 with h' | ⟨g, cap, cur, h', h1, h2, h3⟩
    · exact .inl h'
    · exact .inr ⟨g, cap, cur, h', Nat.le_trans hn h1, h2, h3⟩⟩, ⟨h.urow.1, by
    rcases h.urow.2 with h' | ⟨g, cap, cur, h', h1, h2, h3⟩
    · exact .inl h'
    · exact .inr ⟨g, cap, cur, h', Nat.le_trans hn h1, h2, h3⟩⟩⟩
set_option maxRecDepth 100000 in
set_option maxHeartbeats 4000000 in
theorem eplanOf_any (v : Value) (m : M) (num : Nat) (w : World) (hv : MacV w v m) (hx : ∀ u ∈ m.body, u.text.size ≤ 1000000000) (hl : m.body.length ≤ 1000000) (hps : m.ps.length ≤ 1000000) (hsz : ∀ p ∈ m.ps, p.size ≤ 1000000000) :
    Calls Tryz.prog 78 #[v, .int .i64 num] w (PlanPost w m num) := by
  obtain ⟨iu, hi, hz0, hz1, hz2⟩ := info_parts infoUse
  obtain ⟨pv, bv, rfl, hp, hb⟩ := id hv
  obtain ⟨ad, cap, rfl, -, -, -⟩ := id hb
  obtain ⟨ap, cp, rfl, -, -, -⟩ := id hp
  have HV := Lib.hid hv
  have HX := Lib.hid hx
  have HS := Lib.hid hsz
  have hbx := heap_alloc_new w (.cells #[.string m.name, .bool m.fn, .slice ap m.ps.length cp, .bool m.va, .slice ad m.body.length cap] 32)
  have hA : Below w.heap.size w (w.alloc (.cells #[.string m.name, .bool m.fn, .slice ap m.ps.length cp, .bool m.va, .slice ad m.body.length cap] 32)) := (Below.refl _ w).alloc (Nat.le_refl _) _
  have hsz1 : (w.alloc (.cells #[.string m.name, .bool m.fn, .slice ap m.ps.length cp, .bool m.va, .slice ad m.body.length cap] 32)).heap.size = w.heap.size + 1 := by simp
  clear hp hb hv hx hsz
  go_enter Tryz.func78, Tryz.ntmps78
  show Code.wp Tryz.prog (secs 0 planBody) _ _ _
  refine wp_sec 0 planBody rfl ?_
  conv => arg 2; whnf
  go_wp2_with fail
  generalize (w.alloc (.cells #[.string m.name, .bool m.fn, .slice ap m.ps.length cp, .bool m.va, .slice ad m.body.length cap] 32)) = W1 at hbx hA hsz1 ⊢
  obtain ⟨c0, c1, c2, c3, c4⟩ := mac_cells hbx
  refine wp_sec 1 planBody rfl ?_
  conv => arg 2; whnf
  go_wp2_with (at_make; refine wpList_make_full _ rfl _ _ 111 rfl W1.heap.size 144 iu _ 2 Tryz.underlying111 hi hz0 hz1 .i64 .i64 _ _ (m.ps.length + 1) rfl rfl (by push_cast; rfl) (by push_cast; rfl) (by rw [hz2]; omega) (by unfold maxLen; omega) (Nat.le_refl _) ?_; intro w1 hrow1 hg1)
  have hsz2 := hsz1
  rw [hsz1] at hrow1
  have hB1 : Below w.heap.size w w1 := hA.grown hg1 (by omega) (fun j e => by cases e)
  have hbx1 := (hg1.block _ (lt_of_heap hbx) (by simp)).trans hbx
  have hle : w.heap.size + 1 ≤ w1.heap.size := by have := hg1.size; omega
  have hA2 : Below w1.heap.size w1 (w1.alloc (.cells #[.int .i64 (num : Int), .slice none 0 0, .slice (some ⟨w.heap.size + 1, 0, none⟩) (m.ps.length + 1) (m.ps.length + 1)] 113)) := (Below.refl _ _).alloc (Nat.le_refl _) _
  have hpl : PlW (w1.alloc (.cells #[.int .i64 (num : Int), .slice none 0 0, .slice (some ⟨w.heap.size + 1, 0, none⟩) (m.ps.length + 1) (m.ps.length + 1)] 113)) (w.heap.size + 1) w1.heap.size num (.slice none 0 0) (.slice (some ⟨w.heap.size + 1, 0, none⟩) (m.ps.length + 1) (m.ps.length + 1)) [] [] (m.ps.length + 1) := by
    refine ⟨heap_alloc_new w1 _, hle, World.ownsRow_nil _ _ _ _, ?_⟩
    rw [← usCells_made]
    exact row_below hrow1 hA2
  have hbx2 := (hA2.block _ (lt_of_heap hbx1)).trans hbx1
  have hB2 : Below w.heap.size w (w1.alloc (.cells #[.int .i64 (num : Int), .slice none 0 0, .slice (some ⟨w.heap.size + 1, 0, none⟩) (m.ps.length + 1) (m.ps.length + 1)] 113)) := hB1.trans (hA2.mono hB1.size)
  generalize (w1.alloc (.cells #[.int .i64 (num : Int), .slice none 0 0, .slice (some ⟨w.heap.size + 1, 0, none⟩) (m.ps.length + 1) (m.ps.length + 1)] 113)) = W2 at hpl hbx2 hB2 ⊢
  generalize w1.heap.size = pb at hpl ⊢
  have KP := Lib.hid (eparams_any _ m W2 (HV.out.below hB2) hps HS.out)
  have HPL := Lib.hid hpl
  have HBX := Lib.hid hbx2
  have HB2 := Lib.hid hB2
  obtain ⟨d0, d1, d2, d3, d4⟩ := mac_cells hbx2
  clear c0 c1 c2 c3 c4 hbx hA hsz1 hrow1 hg1 hB1 hbx1 hle hA2 hpl hbx2 hB2 hsz2 hi hz0 hz1 hz2
  refine wp_sec 2 planBody rfl ?_
  conv => arg 2; whnf
  go_wp2_with fail
  refine (KP.out).mono ?_
  rintro e W3 ⟨mb, N, rfl, hmap, -, hb3⟩
  have hL : PlL w W3 (w.heap.size + 1) pb num (.slice (some ⟨w.heap.size + 1, 0, none⟩) (m.ps.length + 1) (m.ps.length + 1)) (m.ps.length + 1) mb N m (.slice ap m.ps.length cp) ad cap [] [] (.slice none 0 0) :=
    ⟨HPL.out.below hb3, (hb3.block _ (lt_of_heap HBX.out)).trans HBX.out, hmap, Below.then HB2.out hb3, by omega⟩
  have HL := Lib.hid hL
  clear d0 d1 d2 d3 d4 hL hmap hb3 KP
  go_wp2_with fail
  refine Code.wp_mono (fun e a w' h => bodyPost_mono (fun e w' h => ?_) h) (plan_tail3 w W3 (w.heap.size + 1) pb num _ (m.ps.length + 1) mb N m _ ad cap _ _ _ _ _ _ _ _ _ _ _ _ _ _ _ _ _ _ _ _ _ _ _ _ _ _ _ _ _ _ _ _ _ _ _ _ _ _ _ _ _ _ _ _ _ _ _ _ _ _ _ _ _ _ _ _ _ _ _ _ _ _ _ HL.out HV.out HX.out hl rfl hps)
  obtain ⟨⟨sv, h2, h3⟩, h4⟩ := h
  exact ⟨pb, sv, _, h2, h3.base (by omega), h4⟩
end Go.Proofs.YtlepnafgcmeimaaGreatDoor
