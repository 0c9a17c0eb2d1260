/- What is proved: what the law's own define and wrong tell of a text. (and what stands with it) -/
import Derived.Test.YtfjbmenakcnadaaDoorGj
import Derived.Test.YtfjbmenakcnadaaDoorGo
import Derived.Test.YtfjbmenakcnadaaDoorGl
import Derived.Test.YtfjbmenakcnadaaDoorGk
import Derived.Test.YtfjbmenakcnadaaDoorGg

/- What is proved: what the law's own define and wrong tell of a text. -/
namespace Go.Proofs.YtfjbmenakcnadaaDoor
namespace Mx
open Go.Lib
open Sp (Ch)
open Lx (T tk)

def wt : List K → Nat
  | [] => 0
  | t :: r => t.text.size + 1 + wt r
theorem wt_append (a b : List K) : wt (a ++ b) = wt a + wt b := by
  induction a with
  | nil => simp [wt]
  | cons t r ih => simp [wt, ih]; omega
theorem wt_mem (ts : List K) : ∀ t ∈ ts, t.text.size ≤ wt ts := by
  induction ts with
  | nil => intro t h; simp at h
  | cons x r ih =>
    intro t h
    rcases List.mem_cons.1 h with rfl | h
    · simp [wt]; omega
    · have := ih t h; simp [wt]; omega
theorem wt_len (ts : List K) : ts.length ≤ wt ts := by
  induction ts with
  | nil => simp [wt]
  | cons x r ih => simp [wt]; omega
theorem tk_wt (f : Int) : ∀ (p : Bool) (l : List Ch), wt ((tk p l).map (ofT f)) ≤ 2 * l.length := by
  refine Lx.tkInd ?_ ?_ ?_
  · intro p; simp [Lx.tk_nil, wt]
  · intro p l hb ih
    rw [Lx.tk_blank p l hb]
    rw [List.length_drop] at ih
    omega
  · intro p l hl hb ih
    have h1 := Lx.first_len l hl
    rw [Lx.tk_tok p l hl hb, List.map_cons, wt]
    rw [List.length_drop] at ih
    have hs : (ofT f (Lx.tokAt p l)).text.size ≤ (Lx.first (Lx.bytes l)).2 := by
      show (⟨(Lx.tokAt p l).text.toArray⟩ : ByteArray).size ≤ _
      rw [mk_size]
      unfold Lx.tokAt
      dsimp only
      rw [List.length_take]; omega
    omega

/-- A text's tokens, with all that they hold. -/
def ks (s : ByteArray) : List K := (tk false (Sp.left 0 s.data.toList)).map (ofT 0)
theorem ks_wt (s : ByteArray) : wt (ks s) ≤ 2 * s.size := by
  have h1 := tk_wt 0 false (Sp.left 0 s.data.toList)
  have h2 := Sp.left_le 0 s.data.toList
  rw [size_list] at h2
  unfold ks
  omega
/-- The macro of a text. -/
def df (s : ByteArray) : M × Int := defi (ks s)
end Mx
open Go.RowKit Go.Shelf Go.WideMaps

set_option maxRecDepth 100000 in
set_option maxHeartbeats 2000000 in
theorem ldef_any (s : ByteArray) (hs : s.size ≤ 10000000) (w : World) (hG : Glob w) : Calls Tryd.prog 10 #[.string s] w (DefPost w (Mx.df s)) := by
  have hwt := Mx.ks_wt s
  have hlen := Mx.wt_len (Mx.ks s)
  have hmem := Mx.wt_mem (Mx.ks s)
  have HL := Lib.hid (show (Mx.ks s).length * 56 ≤ 140737488355328 by omega)
  have HX := Lib.hid (show ∀ t ∈ Mx.ks s, t.text.size ≤ maxLen from fun t ht => by have := hmem t ht; unfold maxLen; omega)
  obtain ⟨res, hres⟩ : ∃ res, res = Mx.df s := ⟨_, rfl⟩
  rw [← hres]
  have HRES := Lib.hid hres
  have HG := Lib.hid hG
  clear hwt hlen hmem hres hG
  go_enter Tryd.func10, Tryd.ntmps10
  go_wp2_with fail
  have hk0 := heap_alloc_new w (.cells #[.string ⟨#[]⟩, .bool false, .slice none 0 0, .bool false, .slice none 0 0] 26)
  have hB0 : Below w.heap.size w (w.alloc (.cells #[.string ⟨#[]⟩, .bool false, .slice none 0 0, .bool false, .slice none 0 0] 26)) := (Below.refl _ w).alloc (Nat.le_refl _) _
  generalize w.alloc (.cells #[.string ⟨#[]⟩, .bool false, .slice none 0 0, .bool false, .slice none 0 0] 26) = W0 at hk0 hB0 ⊢
  refine (tokens_any 0 s (by omega) _ (HG.out.later hB0)).mono ?_
  rintro e W1 ⟨v, rfl, hv, hB1⟩
  have hk : Ks W1 v (Mx.ks s) := hv.ks
  replace hk0 := (hB1.block _ (lt_of_block hk0)).trans hk0
  replace hB1 := Below.then hB0 hB1
  clear hv hB0
  go_wp2_with fail
  refine (define_any v _ W1 hk HX.out HL.out).mono ?_
  rw [show Mx.defi (Mx.ks s) = res from HRES.out.symm]
  rintro e W2 ⟨mv, rfl, ⟨pv, bv, rfl, hp, hb⟩, hB2⟩
  obtain ⟨pa, pn, pc, rfl⟩ := row_slice hp
  obtain ⟨ba, bn, bc, rfl⟩ := row_slice hb
  have hlt := lt_of_block hk0
  replace hk0 := (hB2.block _ hlt).trans hk0
  have hB := Below.then hB1 hB2
  have hwl0 := lt_of_block hk0
  have r0 := (Lib.cell_of_heap hk0 0).trans rfl
  have r1 := (Lib.cell_of_heap hk0 1).trans rfl
  have r2 := (Lib.cell_of_heap hk0 2).trans rfl
  have r3 := (Lib.cell_of_heap hk0 3).trans rfl
  have r4 := (Lib.cell_of_heap hk0 4).trans rfl
  have q0 : ∀ i, W2.frozen? ⟨w.heap.size, i, none⟩ = false := fun i => by simp [World.frozen?, hk0]
  have HP := Lib.hid hp
  have HBd := Lib.hid hb
  have HK0 := Lib.hid hk0
  clear hp hb hk0 hB1 hB2 hk
  go_wp2_with fail
  have hset : ∀ W : World, W.ownsRow W1.heap.size 9 1 (.slice pa pn pc) res.1.ps.length (strCells res.1.ps) → W.ownsRow W1.heap.size 39 6 (.slice ba bn bc) res.1.body.length (ksCells res.1.body) → Below w.heap.size w W → ∀ (i : Nat) (u : Value), (W.setCell ⟨w.heap.size, i, none⟩ u).ownsRow W1.heap.size 9 1 (.slice pa pn pc) res.1.ps.length (strCells res.1.ps) ∧ (W.setCell ⟨w.heap.size, i, none⟩ u).ownsRow W1.heap.size 39 6 (.slice ba bn bc) res.1.body.length (ksCells res.1.body) ∧ Below w.heap.size w (W.setCell ⟨w.heap.size, i, none⟩ u) :=
    fun W h1 h2 h3 i u => ⟨ownsRow_setCell_below h1 hlt u, ownsRow_setCell_below h2 hlt u, h3.setCell (Nat.le_refl _) u⟩
  obtain ⟨x1, x2, x3⟩ := hset _ HP.out HBd.out hB 0 (.string res.1.name)
  obtain ⟨x1, x2, x3⟩ := hset _ x1 x2 x3 1 (.bool res.1.fn)
  obtain ⟨x1, x2, x3⟩ := hset _ x1 x2 x3 2 (.slice pa pn pc)
  obtain ⟨x1, x2, x3⟩ := hset _ x1 x2 x3 3 (.bool res.1.va)
  obtain ⟨x1, x2, x3⟩ := hset _ x1 x2 x3 4 (.slice ba bn bc)
  have hf0 : (((((W2.setCell ⟨w.heap.size, 0, none⟩ (.string res.1.name)).setCell ⟨w.heap.size, 1, none⟩ (.bool res.1.fn)).setCell ⟨w.heap.size, 2, none⟩ (.slice pa pn pc)).setCell ⟨w.heap.size, 3, none⟩ (.bool res.1.va)).setCell ⟨w.heap.size, 4, none⟩ (.slice ba bn bc)).heap[w.heap.size]? = some (.cells #[.string res.1.name, .bool res.1.fn, .slice pa pn pc, .bool res.1.va, .slice ba bn bc] 26 (0, 0)) := by
    simp [World.setCell, Array.getElem?_modify, HK0.out]
  generalize (((((W2.setCell ⟨w.heap.size, 0, none⟩ (.string res.1.name)).setCell ⟨w.heap.size, 1, none⟩ (.bool res.1.fn)).setCell ⟨w.heap.size, 2, none⟩ (.slice pa pn pc)).setCell ⟨w.heap.size, 3, none⟩ (.bool res.1.va)).setCell ⟨w.heap.size, 4, none⟩ (.slice ba bn bc)) = Wf at x1 x2 x3 hf0 ⊢
  have s0 := (Lib.cell_of_heap hf0 0).trans rfl
  have s1 := (Lib.cell_of_heap hf0 1).trans rfl
  have s2 := (Lib.cell_of_heap hf0 2).trans rfl
  have s3 := (Lib.cell_of_heap hf0 3).trans rfl
  have s4 := (Lib.cell_of_heap hf0 4).trans rfl
  refine bodyPost_ret (v := .tuple #[.agg #[.string res.1.name, .bool res.1.fn, .slice pa pn pc, .bool res.1.va, .slice ba bn bc], .int .i64 res.2]) (by simp [results, Tryd.results10, go_sem, s0, s1, s2, s3, s4]) rfl ?_
  exact ⟨_, rfl, ⟨_, _, rfl, x1.mono (by omega), x2.mono (by omega)⟩, x3⟩

set_option maxRecDepth 100000 in
set_option maxHeartbeats 2000000 in
theorem lwrong_any (s : ByteArray) (hs : s.size ≤ 10000000) (w : World) (hG : Glob w) : Calls Tryd.prog 22 #[.string s] w fun e w' => e = .returned (.int .i64 (Mx.df s).2) ∧ Below w.heap.size w w' := by
  go_enter Tryd.func22, Tryd.ntmps22
  go_wp2_with fail
  refine (ldef_any s hs w hG).mono ?_
  rintro e W ⟨mv, rfl, ⟨pv, bv, rfl, hp, hb⟩, hB⟩
  obtain ⟨pa, pn, pc, rfl⟩ := row_slice hp
  obtain ⟨ba, bn, bc, rfl⟩ := row_slice hb
  clear hp hb
  go_wp2_with fail
  go_ret
  exact ⟨rfl, hB.alloc hB.size _⟩
end Go.Proofs.YtfjbmenakcnadaaDoor

/- What is proved: where tokens stand does not matter to a macro (plain); two blanks ahead of a text do not. -/
namespace Go.Proofs.YtfjbmenakcnadaaDoor
namespace Mx

/-- A token, but for where it stands. -/
def er (t : K) : K := ⟨t.kind, t.text, 0, 0, 0, t.bl⟩
theorem er_kal {l l' : List K} : l.map kal = l'.map kal ↔ l.map er = l'.map er := by
  have h1 : ∀ l : List K, l.map er = (l.map kal).map fun x => ⟨x.1, x.2.1, 0, 0, 0, x.2.2⟩ := fun l => by simp [er, kal]
  have h2 : ∀ l : List K, l.map kal = (l.map er).map kal := fun l => by simp [er, kal]
  exact ⟨fun h => by rw [h1, h1, h], fun h => by rw [h2 l, h2 l', h]⟩

theorem plist_er (n : Nat) : ∀ (l : List K) (ps : List ByteArray), l.length ≤ n → plist ps (l.map er) = (plist ps l).map fun x => (x.1, x.2.1, x.2.2.map er) := by
  induction n with
  | zero =>
    intro l ps h
    rw [List.length_eq_zero_iff.1 (Nat.le_zero.1 h)]
    rfl
  | succ n ih =>
    intro l ps h
    rcases l with _ | ⟨a, _ | ⟨b, r⟩⟩
    · rfl
    · rfl
    · rw [List.map_cons, List.map_cons, plist_two, plist_two]
      rw [show parGood ps (er a) = parGood ps a from rfl, show isP (er b) RP = isP b RP from rfl, show isP (er b) CM = isP b CM from rfl, show isP (er a) EL = isP a EL from rfl, show parPs ps (er a) = parPs ps a from rfl]
      rw [ih r _ (by simp only [List.length_cons] at h; omega)]
      split
      · split
        · rfl
        · split <;> rfl
      · rfl
theorem brack_er (r : List K) : brack (r.map er) = (brack r).map fun x => (x.1, x.2.1, x.2.2.1, x.2.2.2.map er) := by
  rcases r with _ | ⟨u, r⟩
  · rfl
  · rcases r with _ | ⟨c, r⟩
    · simp only [List.map_cons, List.map_nil, brack]
      rw [show (er u).bl = u.bl from rfl, show isP (er u) LP = isP u LP from rfl]
      split
      · rfl
      · split <;> rfl
    · have hp := plist_er _ (c :: r) [] (Nat.le_refl _)
      simp only [List.map_cons] at hp
      simp only [List.map_cons, brack]
      rw [show (er u).bl = u.bl from rfl, show isP (er u) LP = isP u LP from rfl, show isP (er c) RP = isP c RP from rfl, hp]
      split
      · rfl
      · split
        · split
          · rfl
          · cases plist [] (c :: r) <;> rfl
        · rfl
theorem bare_er (l : List K) : bare (l.map er) = (bare l).map er := by cases l <;> rfl
theorem bare_bare (l : List K) : bare (bare l) = bare l := by cases l <;> rfl
theorem hashBad_er (ps : List ByteArray) (va : Bool) : ∀ l : List K, hashBad ps va (l.map er) = hashBad ps va l
  | [] => rfl
  | [_] => rfl
  | t :: u :: r => by
    have := hashBad_er ps va (u :: r)
    simp only [List.map_cons] at this
    simp only [List.map_cons, hashBad, this]
    rfl
theorem vaIn_er (l : List K) : vaIn (l.map er) = vaIn l := by
  induction l with
  | nil => rfl
  | cons t r ih =>
    rw [List.map_cons, show vaIn (er t :: r.map er) = ((er t).kind == 1 && decide ((er t).text = VA) || vaIn (r.map er)) from rfl, ih]
    rfl
theorem pasteBad_er (l : List K) : pasteBad (l.map er) = pasteBad l := by
  unfold pasteBad
  rw [List.head?_map, List.getLast?_map]
  cases l.head? <;> cases l.getLast? <;> rfl
/-- A macro, but for where its body stands. -/
def erM (m : M) : M := { m with body := m.body.map er }
theorem bodyOf_er (nm : ByteArray) (fn : Bool) (ps : List ByteArray) (va : Bool) (l : List K) : bodyOf nm fn ps va (l.map er) = (erM (bodyOf nm fn ps va l).1, (bodyOf nm fn ps va l).2) := by
  unfold bodyOf
  rw [pasteBad_er, hashBad_er, vaIn_er, bare_er]
  by_cases h : l = []
  · subst h; rfl
  · rw [if_neg h, if_neg (by simpa using h)]
    split
    · rfl
    · split
      · rfl
      · split <;> rfl
theorem defi_er (l : List K) : defi (l.map er) = (erM (defi l).1, (defi l).2) := by
  rcases l with _ | ⟨t, r⟩
  · rfl
  · simp only [List.map_cons, defi]
    rw [show nameOk (er t) = nameOk t from rfl, brack_er]
    split
    · cases hb : brack r with
      | error e => rfl
      | ok x =>
        obtain ⟨fn, ps, va, b⟩ := x
        exact bodyOf_er _ _ _ _ _
    · rfl
theorem defi_bl (t : K) (r : List K) (b : Bool) : defi ({ t with bl := b } :: r) = defi (t :: r) := rfl

theorem same_key (a b : M) : same a b = true ↔ a.name = b.name ∧ a.fn = b.fn ∧ a.va = b.va ∧ a.ps = b.ps ∧ (bare a.body).map kal = (bare b.body).map kal := by
  simp [same, sameB]
theorem same_refl (a : M) : same a a = true := (same_key a a).2 ⟨rfl, rfl, rfl, rfl, rfl⟩
theorem same_symm (a b : M) : same b a = same a b := by
  rw [Bool.eq_iff_iff, same_key, same_key]
  exact ⟨fun ⟨h1, h2, h3, h4, h5⟩ => ⟨h1.symm, h2.symm, h3.symm, h4.symm, h5.symm⟩, fun ⟨h1, h2, h3, h4, h5⟩ => ⟨h1.symm, h2.symm, h3.symm, h4.symm, h5.symm⟩⟩
theorem same_trans {a b c : M} (h : same a b = true) (k : same b c = true) : same a c = true := by
  rw [same_key] at *
  exact ⟨h.1.trans k.1, h.2.1.trans k.2.1, h.2.2.1.trans k.2.2.1, h.2.2.2.1.trans k.2.2.2.1, h.2.2.2.2.trans k.2.2.2.2⟩
theorem same_er {a b : M} (h : erM a = erM b) : same a b = true := by
  have h' : a.name = b.name ∧ a.fn = b.fn ∧ a.ps = b.ps ∧ a.va = b.va ∧ a.body.map er = b.body.map er := by
    obtain ⟨a1, a2, a3, a4, a5⟩ := a
    obtain ⟨b1, b2, b3, b4, b5⟩ := b
    simp only [erM, M.mk.injEq] at h
    exact h
  obtain ⟨h1, h2, h3, h4, h5⟩ := h'
  rw [same_key]
  refine ⟨h1, h2, h4, h3, ?_⟩
  rw [er_kal, ← bare_er, ← bare_er, h5]
/-- Macros of lists that differ in where their tokens stand, and in the first one's blank. -/
theorem defi_same {t t' : K} {r r' : List K} (h1 : t.kind = t'.kind) (h2 : t.text = t'.text) (h3 : r.map kal = r'.map kal) : (defi (t :: r)).2 = (defi (t' :: r')).2 ∧ same (defi (t :: r)).1 (defi (t' :: r')).1 = true := by
  have e : defi ((t :: r).map er) = defi ((t' :: r').map er) := by
    rw [List.map_cons, List.map_cons, er_kal.1 h3, ← defi_bl (er t) _ false, ← defi_bl (er t') _ false]
    unfold er
    rw [h1, h2]
  rw [defi_er, defi_er] at e
  injection e with e1 e2
  exact ⟨e2, same_er e1⟩

/-! Two blanks ahead. -/
def setB (l : List (Nat × List UInt8 × Bool)) : List (Nat × List UInt8 × Bool) := match l with | [] => [] | (k, t, _) :: r => (k, t, true) :: r
theorem tb_true : ∀ (p : Bool) (b : List UInt8), setB (Lx.tb p b) = Lx.tb true b := by
  refine Lx.tbInd ?_ ?_ ?_
  · intro p; rfl
  · intro p b h ih
    rw [Lx.tb_blank p b h, ih, Lx.tb_blank true b h]
  · intro p b hb h _
    rw [Lx.tb_tok p b hb h, Lx.tb_tok true b hb h]
    rfl
theorem ks_kal (s : ByteArray) : (ks s).map kal = (Lx.tb false (Lx.bytes (Sp.left 0 s.data.toList))).map fun x => ((x.1 : Int), (⟨x.2.1.toArray⟩ : ByteArray), x.2.2) := by
  rw [← Lx.tk_al, ks, List.map_map, List.map_map]
  rfl
theorem left_sp (k : Nat) (l : List UInt8) : Lx.bytes (Sp.left k (32 :: l)) = 32 :: Lx.bytes (Sp.left 0 l) := by
  rw [Sp.left_one k 32 l (by simp [Go.Lib.hasPrefix, List.isPrefixOf])]
  show 32 :: (Sp.left (k + 1) l).map Prod.fst = _
  rw [Sp.left_fst (k + 1) 0]
  rfl
theorem tb_sp (p : Bool) (b : List UInt8) : Lx.tb p (32 :: b) = Lx.tb true b := by
  have h : Lx.blankLen (32 :: b) = 1 := by rw [Lx.blankLen_cons]; rfl
  rw [Lx.tb_blank p (32 :: b) (by rw [h]; omega), h]
  rfl
/-- Two blanks ahead of a text change no macro. -/
theorem df_sp (s d : ByteArray) (hd : d.data.toList = 32 :: 32 :: s.data.toList) : (df d).2 = (df s).2 ∧ same (df s).1 (df d).1 = true := by
  have e1 := ks_kal s
  have e2 := ks_kal d
  rw [hd, left_sp, left_sp, tb_sp, tb_sp, ← tb_true false] at e2
  unfold df
  generalize Lx.tb false (Lx.bytes (Sp.left 0 s.data.toList)) = B at e1 e2
  rcases B with _ | ⟨x, B⟩
  · rw [List.map_eq_nil_iff.1 e1, List.map_eq_nil_iff.1 e2]
    exact ⟨rfl, same_refl _⟩
  · obtain ⟨t, r, h1, h2, h3⟩ := List.map_eq_cons_iff.1 e1
    obtain ⟨t', r', k1, k2, k3⟩ := List.map_eq_cons_iff.1 e2
    rw [h1, k1]
    simp only [kal, Prod.mk.injEq] at h2 k2
    have := defi_same (t := t) (t' := t') (r := r) (r' := r') (h2.1.trans k2.1.symm) (h2.2.1.trans k2.2.1.symm) (by rw [h3, k3])
    exact ⟨this.1.symm, this.2⟩
end Mx
end Go.Proofs.YtfjbmenakcnadaaDoor

/- What is proved: the chapter's examples are as it says (awake), in whatever memory. -/
namespace Go.Proofs.YtfjbmenakcnadaaDoor
open Go.RowKit Go.Shelf Go.WideMaps

theorem ldef_lit (s : ByteArray) (hs : s.size ≤ 10000000) (fn va : Bool) (np nb : Nat) (err : Int) (h : (Mx.df s).2 = err ∧ (Mx.df s).1.fn = fn ∧ (Mx.df s).1.va = va ∧ (Mx.df s).1.ps.length = np ∧ (Mx.df s).1.body.length = nb) (w : World) (hG : Glob w) :
    Calls Tryd.prog 10 #[.string s] w fun e w' => ∃ nm pa pc ba bc, e = .returned (.tuple #[.agg #[.string nm, .bool fn, .slice pa np pc, .bool va, .slice ba nb bc], .int .i64 err]) ∧ Below w.heap.size w w' := by
  refine (ldef_any s hs w hG).mono ?_
  rintro e W ⟨mv, rfl, ⟨pv, bv, rfl, hp, hb⟩, hB⟩
  obtain ⟨h1, h2, h3, h4, h5⟩ := h
  obtain ⟨pa, pn, pc, rfl⟩ := row_slice hp
  obtain ⟨ba, bn, bc, rfl⟩ := row_slice hb
  obtain rfl := row_len hp
  obtain rfl := row_len hb
  rw [h1, h2, h3, h4, h5]
  exact ⟨_, _, _, _, _, rfl, hB⟩
theorem lwrong_lit (s : ByteArray) (hs : s.size ≤ 10000000) (err : Int) (h : (Mx.df s).2 = err) (w : World) (hG : Glob w) :
    Calls Tryd.prog 22 #[.string s] w fun e w' => e = .returned (.int .i64 err) ∧ Below w.heap.size w w' := by
  rw [← h]; exact lwrong_any s hs w hG
theorem ex_a : (Mx.df ⟨#[88]⟩).2 = 0 ∧ (Mx.df ⟨#[88]⟩).1.fn = false ∧ (Mx.df ⟨#[88]⟩).1.va = false ∧ (Mx.df ⟨#[88]⟩).1.ps.length = 0 ∧ (Mx.df ⟨#[88]⟩).1.body.length = 0 := ⟨by kernel_rfl, by kernel_rfl, by kernel_rfl, by kernel_rfl, by kernel_rfl⟩
theorem ex_b : (Mx.df ⟨#[88, 32, 49, 32, 43, 32, 50]⟩).2 = 0 ∧ (Mx.df ⟨#[88, 32, 49, 32, 43, 32, 50]⟩).1.fn = false ∧ (Mx.df ⟨#[88, 32, 49, 32, 43, 32, 50]⟩).1.va = false ∧ (Mx.df ⟨#[88, 32, 49, 32, 43, 32, 50]⟩).1.ps.length = 0 ∧ (Mx.df ⟨#[88, 32, 49, 32, 43, 32, 50]⟩).1.body.length = 3 := ⟨by kernel_rfl, by kernel_rfl, by kernel_rfl, by kernel_rfl, by kernel_rfl⟩
theorem ex_c : (Mx.df ⟨#[70, 40, 97, 44, 32, 98, 41, 32, 97, 35, 35, 98]⟩).2 = 0 ∧ (Mx.df ⟨#[70, 40, 97, 44, 32, 98, 41, 32, 97, 35, 35, 98]⟩).1.fn = true ∧ (Mx.df ⟨#[70, 40, 97, 44, 32, 98, 41, 32, 97, 35, 35, 98]⟩).1.va = false ∧ (Mx.df ⟨#[70, 40, 97, 44, 32, 98, 41, 32, 97, 35, 35, 98]⟩).1.ps.length = 2 ∧ (Mx.df ⟨#[70, 40, 97, 44, 32, 98, 41, 32, 97, 35, 35, 98]⟩).1.body.length = 3 := ⟨by kernel_rfl, by kernel_rfl, by kernel_rfl, by kernel_rfl, by kernel_rfl⟩
theorem ex_d : (Mx.df ⟨#[70, 32, 40, 97, 41, 32, 97]⟩).2 = 0 ∧ (Mx.df ⟨#[70, 32, 40, 97, 41, 32, 97]⟩).1.fn = false ∧ (Mx.df ⟨#[70, 32, 40, 97, 41, 32, 97]⟩).1.va = false ∧ (Mx.df ⟨#[70, 32, 40, 97, 41, 32, 97]⟩).1.ps.length = 0 ∧ (Mx.df ⟨#[70, 32, 40, 97, 41, 32, 97]⟩).1.body.length = 4 := ⟨by kernel_rfl, by kernel_rfl, by kernel_rfl, by kernel_rfl, by kernel_rfl⟩
theorem ex_f : (Mx.df ⟨#[70, 40, 41]⟩).2 = 0 ∧ (Mx.df ⟨#[70, 40, 41]⟩).1.fn = true ∧ (Mx.df ⟨#[70, 40, 41]⟩).1.va = false ∧ (Mx.df ⟨#[70, 40, 41]⟩).1.ps.length = 0 ∧ (Mx.df ⟨#[70, 40, 41]⟩).1.body.length = 0 := ⟨by kernel_rfl, by kernel_rfl, by kernel_rfl, by kernel_rfl, by kernel_rfl⟩
theorem ex_g : (Mx.df ⟨#[70, 40, 46, 46, 46, 41, 32, 95, 95, 86, 65, 95, 65, 82, 71, 83, 95, 95]⟩).2 = 0 ∧ (Mx.df ⟨#[70, 40, 46, 46, 46, 41, 32, 95, 95, 86, 65, 95, 65, 82, 71, 83, 95, 95]⟩).1.fn = true ∧ (Mx.df ⟨#[70, 40, 46, 46, 46, 41, 32, 95, 95, 86, 65, 95, 65, 82, 71, 83, 95, 95]⟩).1.va = true ∧ (Mx.df ⟨#[70, 40, 46, 46, 46, 41, 32, 95, 95, 86, 65, 95, 65, 82, 71, 83, 95, 95]⟩).1.ps.length = 0 ∧ (Mx.df ⟨#[70, 40, 46, 46, 46, 41, 32, 95, 95, 86, 65, 95, 65, 82, 71, 83, 95, 95]⟩).1.body.length = 1 := ⟨by kernel_rfl, by kernel_rfl, by kernel_rfl, by kernel_rfl, by kernel_rfl⟩
theorem ex_h : (Mx.df ⟨#[70, 40, 97, 44, 32, 46, 46, 46, 41]⟩).2 = 0 ∧ (Mx.df ⟨#[70, 40, 97, 44, 32, 46, 46, 46, 41]⟩).1.fn = true ∧ (Mx.df ⟨#[70, 40, 97, 44, 32, 46, 46, 46, 41]⟩).1.va = true ∧ (Mx.df ⟨#[70, 40, 97, 44, 32, 46, 46, 46, 41]⟩).1.ps.length = 1 ∧ (Mx.df ⟨#[70, 40, 97, 44, 32, 46, 46, 46, 41]⟩).1.body.length = 0 := ⟨by kernel_rfl, by kernel_rfl, by kernel_rfl, by kernel_rfl, by kernel_rfl⟩
theorem ex_i : (Mx.df ⟨#[88, 32, 35, 98]⟩).2 = 0 ∧ (Mx.df ⟨#[88, 32, 35, 98]⟩).1.fn = false ∧ (Mx.df ⟨#[88, 32, 35, 98]⟩).1.va = false ∧ (Mx.df ⟨#[88, 32, 35, 98]⟩).1.ps.length = 0 ∧ (Mx.df ⟨#[88, 32, 35, 98]⟩).1.body.length = 2 := ⟨by kernel_rfl, by kernel_rfl, by kernel_rfl, by kernel_rfl, by kernel_rfl⟩
theorem ex_k : (Mx.df ⟨#[]⟩).2 = 60 := by kernel_rfl
theorem ex_l : (Mx.df ⟨#[100, 101, 102, 105, 110, 101, 100, 32, 49]⟩).2 = 60 := by kernel_rfl
theorem ex_m : (Mx.df ⟨#[70, 40, 97, 44, 41]⟩).2 = 61 := by kernel_rfl
theorem ex_n : (Mx.df ⟨#[70, 40, 97, 44, 32, 97, 41]⟩).2 = 61 := by kernel_rfl
theorem ex_o : (Mx.df ⟨#[88, 43, 49]⟩).2 = 62 := by kernel_rfl
theorem ex_p : (Mx.df ⟨#[88, 32, 35, 35, 32, 97]⟩).2 = 63 := by kernel_rfl
theorem ex_q : (Mx.df ⟨#[70, 40, 97, 41, 32, 35, 98]⟩).2 = 64 := by kernel_rfl
theorem ex_r : (Mx.df ⟨#[88, 32, 95, 95, 86, 65, 95, 65, 82, 71, 83, 95, 95]⟩).2 = 65 := by kernel_rfl

set_option maxRecDepth 100000 in
set_option maxHeartbeats 8000000 in
theorem awake_any (w : World) (hG : Glob w) : Calls Tryd.prog 9 #[] w (TruePost w) := by
  have HG := Lib.hid hG
  clear hG
  go_enter Tryd.func9, Tryd.ntmps9
  go_wp2_with fail
  refine (ldef_lit ⟨#[88]⟩ (by decide) _ _ _ _ _ ex_a _ HG.out).mono ?_
  rintro e wa ⟨na, pa, pca, ba, bca, rfl, hBa0⟩
  have hBa := hBa0.alloc hBa0.size (.cells #[.string na, .bool false, .slice pa 0 pca, .bool false, .slice ba 0 bca] 26)
  have ka := heap_alloc_new wa (.cells #[.string na, .bool false, .slice pa 0 pca, .bool false, .slice ba 0 bca] 26)
  clear hBa0
  go_wp2_with fail
  refine (ldef_lit ⟨#[88, 32, 49, 32, 43, 32, 50]⟩ (by decide) _ _ _ _ _ ex_b _ (HG.out.later hBa)).mono ?_
  rintro e wb ⟨nb, pb, pcb, bb, bcb, rfl, hBb0⟩
  replace ka := (hBb0.block _ (lt_of_block ka)).trans ka
  replace hBb0 := Below.then hBa hBb0
  clear hBa
  have hBb := hBb0.alloc hBb0.size (.cells #[.string nb, .bool false, .slice pb 0 pcb, .bool false, .slice bb 3 bcb] 26)
  replace ka := (Below.heap_alloc wb (.cells #[.string nb, .bool false, .slice pb 0 pcb, .bool false, .slice bb 3 bcb] 26) _ (lt_of_block ka)).trans ka
  have kb := heap_alloc_new wb (.cells #[.string nb, .bool false, .slice pb 0 pcb, .bool false, .slice bb 3 bcb] 26)
  clear hBb0
  go_wp2_with fail
  refine (ldef_lit ⟨#[70, 40, 97, 44, 32, 98, 41, 32, 97, 35, 35, 98]⟩ (by decide) _ _ _ _ _ ex_c _ (HG.out.later hBb)).mono ?_
  rintro e wc ⟨nc, pc, pcc, bc, bcc, rfl, hBc0⟩
  replace ka := (hBc0.block _ (lt_of_block ka)).trans ka
  replace kb := (hBc0.block _ (lt_of_block kb)).trans kb
  replace hBc0 := Below.then hBb hBc0
  clear hBb
  have hBc := hBc0.alloc hBc0.size (.cells #[.string nc, .bool true, .slice pc 2 pcc, .bool false, .slice bc 3 bcc] 26)
  replace ka := (Below.heap_alloc wc (.cells #[.string nc, .bool true, .slice pc 2 pcc, .bool false, .slice bc 3 bcc] 26) _ (lt_of_block ka)).trans ka
  replace kb := (Below.heap_alloc wc (.cells #[.string nc, .bool true, .slice pc 2 pcc, .bool false, .slice bc 3 bcc] 26) _ (lt_of_block kb)).trans kb
  have kc := heap_alloc_new wc (.cells #[.string nc, .bool true, .slice pc 2 pcc, .bool false, .slice bc 3 bcc] 26)
  clear hBc0
  go_wp2_with fail
  refine (ldef_lit ⟨#[70, 32, 40, 97, 41, 32, 97]⟩ (by decide) _ _ _ _ _ ex_d _ (HG.out.later hBc)).mono ?_
  rintro e wd ⟨nd, pd, pcd, bd, bcd, rfl, hBd0⟩
  replace ka := (hBd0.block _ (lt_of_block ka)).trans ka
  replace kb := (hBd0.block _ (lt_of_block kb)).trans kb
  replace kc := (hBd0.block _ (lt_of_block kc)).trans kc
  replace hBd0 := Below.then hBc hBd0
  clear hBc
  have hBd := hBd0.alloc hBd0.size (.cells #[.string nd, .bool false, .slice pd 0 pcd, .bool false, .slice bd 4 bcd] 26)
  replace ka := (Below.heap_alloc wd (.cells #[.string nd, .bool false, .slice pd 0 pcd, .bool false, .slice bd 4 bcd] 26) _ (lt_of_block ka)).trans ka
  replace kb := (Below.heap_alloc wd (.cells #[.string nd, .bool false, .slice pd 0 pcd, .bool false, .slice bd 4 bcd] 26) _ (lt_of_block kb)).trans kb
  replace kc := (Below.heap_alloc wd (.cells #[.string nd, .bool false, .slice pd 0 pcd, .bool false, .slice bd 4 bcd] 26) _ (lt_of_block kc)).trans kc
  have kd := heap_alloc_new wd (.cells #[.string nd, .bool false, .slice pd 0 pcd, .bool false, .slice bd 4 bcd] 26)
  clear hBd0
  go_wp2_with fail
  refine (ldef_lit ⟨#[70, 40, 41]⟩ (by decide) _ _ _ _ _ ex_f _ (HG.out.later hBd)).mono ?_
  rintro e wf ⟨nf, pf, pcf, bf, bcf, rfl, hBf0⟩
  replace ka := (hBf0.block _ (lt_of_block ka)).trans ka
  replace kb := (hBf0.block _ (lt_of_block kb)).trans kb
  replace kc := (hBf0.block _ (lt_of_block kc)).trans kc
  replace kd := (hBf0.block _ (lt_of_block kd)).trans kd
  replace hBf0 := Below.then hBd hBf0
  clear hBd
  have hBf := hBf0.alloc hBf0.size (.cells #[.string nf, .bool true, .slice pf 0 pcf, .bool false, .slice bf 0 bcf] 26)
  replace ka := (Below.heap_alloc wf (.cells #[.string nf, .bool true, .slice pf 0 pcf, .bool false, .slice bf 0 bcf] 26) _ (lt_of_block ka)).trans ka
  replace kb := (Below.heap_alloc wf (.cells #[.string nf, .bool true, .slice pf 0 pcf, .bool false, .slice bf 0 bcf] 26) _ (lt_of_block kb)).trans kb
  replace kc := (Below.heap_alloc wf (.cells #[.string nf, .bool true, .slice pf 0 pcf, .bool false, .slice bf 0 bcf] 26) _ (lt_of_block kc)).trans kc
  replace kd := (Below.heap_alloc wf (.cells #[.string nf, .bool true, .slice pf 0 pcf, .bool false, .slice bf 0 bcf] 26) _ (lt_of_block kd)).trans kd
  have kf := heap_alloc_new wf (.cells #[.string nf, .bool true, .slice pf 0 pcf, .bool false, .slice bf 0 bcf] 26)
  clear hBf0
  go_wp2_with fail
  refine (ldef_lit ⟨#[70, 40, 46, 46, 46, 41, 32, 95, 95, 86, 65, 95, 65, 82, 71, 83, 95, 95]⟩ (by decide) _ _ _ _ _ ex_g _ (HG.out.later hBf)).mono ?_
  rintro e wg ⟨ng, pg, pcg, bg, bcg, rfl, hBg0⟩
  replace ka := (hBg0.block _ (lt_of_block ka)).trans ka
  replace kb := (hBg0.block _ (lt_of_block kb)).trans kb
  replace kc := (hBg0.block _ (lt_of_block kc)).trans kc
  replace kd := (hBg0.block _ (lt_of_block kd)).trans kd
  replace kf := (hBg0.block _ (lt_of_block kf)).trans kf
  replace hBg0 := Below.then hBf hBg0
  clear hBf
  have hBg := hBg0.alloc hBg0.size (.cells #[.string ng, .bool true, .slice pg 0 pcg, .bool true, .slice bg 1 bcg] 26)
  replace ka := (Below.heap_alloc wg (.cells #[.string ng, .bool true, .slice pg 0 pcg, .bool true, .slice bg 1 bcg] 26) _ (lt_of_block ka)).trans ka
  replace kb := (Below.heap_alloc wg (.cells #[.string ng, .bool true, .slice pg 0 pcg, .bool true, .slice bg 1 bcg] 26) _ (lt_of_block kb)).trans kb
  replace kc := (Below.heap_alloc wg (.cells #[.string ng, .bool true, .slice pg 0 pcg, .bool true, .slice bg 1 bcg] 26) _ (lt_of_block kc)).trans kc
  replace kd := (Below.heap_alloc wg (.cells #[.string ng, .bool true, .slice pg 0 pcg, .bool true, .slice bg 1 bcg] 26) _ (lt_of_block kd)).trans kd
  replace kf := (Below.heap_alloc wg (.cells #[.string ng, .bool true, .slice pg 0 pcg, .bool true, .slice bg 1 bcg] 26) _ (lt_of_block kf)).trans kf
  have kg := heap_alloc_new wg (.cells #[.string ng, .bool true, .slice pg 0 pcg, .bool true, .slice bg 1 bcg] 26)
  clear hBg0
  go_wp2_with fail
  refine (ldef_lit ⟨#[70, 40, 97, 44, 32, 46, 46, 46, 41]⟩ (by decide) _ _ _ _ _ ex_h _ (HG.out.later hBg)).mono ?_
  rintro e wh ⟨nh, ph, pch, bh, bch, rfl, hBh0⟩
  replace ka := (hBh0.block _ (lt_of_block ka)).trans ka
  replace kb := (hBh0.block _ (lt_of_block kb)).trans kb
  replace kc := (hBh0.block _ (lt_of_block kc)).trans kc
  replace kd := (hBh0.block _ (lt_of_block kd)).trans kd
  replace kf := (hBh0.block _ (lt_of_block kf)).trans kf
  replace kg := (hBh0.block _ (lt_of_block kg)).trans kg
  replace hBh0 := Below.then hBg hBh0
  clear hBg
  have hBh := hBh0.alloc hBh0.size (.cells #[.string nh, .bool true, .slice ph 1 pch, .bool true, .slice bh 0 bch] 26)
  replace ka := (Below.heap_alloc wh (.cells #[.string nh, .bool true, .slice ph 1 pch, .bool true, .slice bh 0 bch] 26) _ (lt_of_block ka)).trans ka
  replace kb := (Below.heap_alloc wh (.cells #[.string nh, .bool true, .slice ph 1 pch, .bool true, .slice bh 0 bch] 26) _ (lt_of_block kb)).trans kb
  replace kc := (Below.heap_alloc wh (.cells #[.string nh, .bool true, .slice ph 1 pch, .bool true, .slice bh 0 bch] 26) _ (lt_of_block kc)).trans kc
  replace kd := (Below.heap_alloc wh (.cells #[.string nh, .bool true, .slice ph 1 pch, .bool true, .slice bh 0 bch] 26) _ (lt_of_block kd)).trans kd
  replace kf := (Below.heap_alloc wh (.cells #[.string nh, .bool true, .slice ph 1 pch, .bool true, .slice bh 0 bch] 26) _ (lt_of_block kf)).trans kf
  replace kg := (Below.heap_alloc wh (.cells #[.string nh, .bool true, .slice ph 1 pch, .bool true, .slice bh 0 bch] 26) _ (lt_of_block kg)).trans kg
  have kh := heap_alloc_new wh (.cells #[.string nh, .bool true, .slice ph 1 pch, .bool true, .slice bh 0 bch] 26)
  clear hBh0
  go_wp2_with fail
  refine (ldef_lit ⟨#[88, 32, 35, 98]⟩ (by decide) _ _ _ _ _ ex_i _ (HG.out.later hBh)).mono ?_
  rintro e wi ⟨ni, pi, pci, bi, bci, rfl, hBi0⟩
  replace ka := (hBi0.block _ (lt_of_block ka)).trans ka
  replace kb := (hBi0.block _ (lt_of_block kb)).trans kb
  replace kc := (hBi0.block _ (lt_of_block kc)).trans kc
  replace kd := (hBi0.block _ (lt_of_block kd)).trans kd
  replace kf := (hBi0.block _ (lt_of_block kf)).trans kf
  replace kg := (hBi0.block _ (lt_of_block kg)).trans kg
  replace kh := (hBi0.block _ (lt_of_block kh)).trans kh
  replace hBi0 := Below.then hBh hBi0
  clear hBh
  have hBi := hBi0.alloc hBi0.size (.cells #[.string ni, .bool false, .slice pi 0 pci, .bool false, .slice bi 2 bci] 26)
  replace ka := (Below.heap_alloc wi (.cells #[.string ni, .bool false, .slice pi 0 pci, .bool false, .slice bi 2 bci] 26) _ (lt_of_block ka)).trans ka
  replace kb := (Below.heap_alloc wi (.cells #[.string ni, .bool false, .slice pi 0 pci, .bool false, .slice bi 2 bci] 26) _ (lt_of_block kb)).trans kb
  replace kc := (Below.heap_alloc wi (.cells #[.string ni, .bool false, .slice pi 0 pci, .bool false, .slice bi 2 bci] 26) _ (lt_of_block kc)).trans kc
  replace kd := (Below.heap_alloc wi (.cells #[.string ni, .bool false, .slice pi 0 pci, .bool false, .slice bi 2 bci] 26) _ (lt_of_block kd)).trans kd
  replace kf := (Below.heap_alloc wi (.cells #[.string ni, .bool false, .slice pi 0 pci, .bool false, .slice bi 2 bci] 26) _ (lt_of_block kf)).trans kf
  replace kg := (Below.heap_alloc wi (.cells #[.string ni, .bool false, .slice pi 0 pci, .bool false, .slice bi 2 bci] 26) _ (lt_of_block kg)).trans kg
  replace kh := (Below.heap_alloc wi (.cells #[.string ni, .bool false, .slice pi 0 pci, .bool false, .slice bi 2 bci] 26) _ (lt_of_block kh)).trans kh
  have ki := heap_alloc_new wi (.cells #[.string ni, .bool false, .slice pi 0 pci, .bool false, .slice bi 2 bci] 26)
  clear hBi0
  have xa1 := (Lib.cell_of_heap ka 1).trans rfl
  have xa2 := (Lib.cell_of_heap ka 2).trans rfl
  have xa3 := (Lib.cell_of_heap ka 3).trans rfl
  have xa4 := (Lib.cell_of_heap ka 4).trans rfl
  have xb1 := (Lib.cell_of_heap kb 1).trans rfl
  have xb2 := (Lib.cell_of_heap kb 2).trans rfl
  have xb3 := (Lib.cell_of_heap kb 3).trans rfl
  have xb4 := (Lib.cell_of_heap kb 4).trans rfl
  have xc1 := (Lib.cell_of_heap kc 1).trans rfl
  have xc2 := (Lib.cell_of_heap kc 2).trans rfl
  have xc3 := (Lib.cell_of_heap kc 3).trans rfl
  have xc4 := (Lib.cell_of_heap kc 4).trans rfl
  have xd1 := (Lib.cell_of_heap kd 1).trans rfl
  have xd2 := (Lib.cell_of_heap kd 2).trans rfl
  have xd3 := (Lib.cell_of_heap kd 3).trans rfl
  have xd4 := (Lib.cell_of_heap kd 4).trans rfl
  have xf1 := (Lib.cell_of_heap kf 1).trans rfl
  have xf2 := (Lib.cell_of_heap kf 2).trans rfl
  have xf3 := (Lib.cell_of_heap kf 3).trans rfl
  have xf4 := (Lib.cell_of_heap kf 4).trans rfl
  have xg1 := (Lib.cell_of_heap kg 1).trans rfl
  have xg2 := (Lib.cell_of_heap kg 2).trans rfl
  have xg3 := (Lib.cell_of_heap kg 3).trans rfl
  have xg4 := (Lib.cell_of_heap kg 4).trans rfl
  have xh1 := (Lib.cell_of_heap kh 1).trans rfl
  have xh2 := (Lib.cell_of_heap kh 2).trans rfl
  have xh3 := (Lib.cell_of_heap kh 3).trans rfl
  have xh4 := (Lib.cell_of_heap kh 4).trans rfl
  have xi1 := (Lib.cell_of_heap ki 1).trans rfl
  have xi2 := (Lib.cell_of_heap ki 2).trans rfl
  have xi3 := (Lib.cell_of_heap ki 3).trans rfl
  have xi4 := (Lib.cell_of_heap ki 4).trans rfl
  clear ka kb kc kd kf kg kh ki
  go_wp2_with fail
  clear xa1 xa2 xa3 xa4 xb1 xb2 xb3 xb4 xc1 xc2 xc3 xc4 xd1 xd2 xd3 xd4 xf1 xf2 xf3 xf4 xg1 xg2 xg3 xg4 xh1 xh2 xh3 xh4 xi1 xi2 xi3 xi4
  refine (lwrong_lit ⟨#[]⟩ (by decide) _ ex_k _ (HG.out.later hBi)).mono ?_
  rintro e wk ⟨rfl, hBk0⟩
  have hBk := Below.then hBi hBk0
  clear hBi hBk0
  go_wp2_with fail
  refine (lwrong_lit ⟨#[100, 101, 102, 105, 110, 101, 100, 32, 49]⟩ (by decide) _ ex_l _ (HG.out.later hBk)).mono ?_
  rintro e wl ⟨rfl, hBl0⟩
  have hBl := Below.then hBk hBl0
  clear hBk hBl0
  go_wp2_with fail
  refine (lwrong_lit ⟨#[70, 40, 97, 44, 41]⟩ (by decide) _ ex_m _ (HG.out.later hBl)).mono ?_
  rintro e wm ⟨rfl, hBm0⟩
  have hBm := Below.then hBl hBm0
  clear hBl hBm0
  go_wp2_with fail
  refine (lwrong_lit ⟨#[70, 40, 97, 44, 32, 97, 41]⟩ (by decide) _ ex_n _ (HG.out.later hBm)).mono ?_
  rintro e wn ⟨rfl, hBn0⟩
  have hBn := Below.then hBm hBn0
  clear hBm hBn0
  go_wp2_with fail
  refine (lwrong_lit ⟨#[88, 43, 49]⟩ (by decide) _ ex_o _ (HG.out.later hBn)).mono ?_
  rintro e wo ⟨rfl, hBo0⟩
  have hBo := Below.then hBn hBo0
  clear hBn hBo0
  go_wp2_with fail
  refine (lwrong_lit ⟨#[88, 32, 35, 35, 32, 97]⟩ (by decide) _ ex_p _ (HG.out.later hBo)).mono ?_
  rintro e wp ⟨rfl, hBp0⟩
  have hBp := Below.then hBo hBp0
  clear hBo hBp0
  go_wp2_with fail
  refine (lwrong_lit ⟨#[70, 40, 97, 41, 32, 35, 98]⟩ (by decide) _ ex_q _ (HG.out.later hBp)).mono ?_
  rintro e wq ⟨rfl, hBq0⟩
  have hBq := Below.then hBp hBq0
  clear hBp hBq0
  go_wp2_with fail
  refine (lwrong_lit ⟨#[88, 32, 95, 95, 86, 65, 95, 65, 82, 71, 83, 95, 95]⟩ (by decide) _ ex_r _ (HG.out.later hBq)).mono ?_
  rintro e wr ⟨rfl, hBr0⟩
  have hBr := Below.then hBq hBr0
  clear hBq hBr0
  go_wp2_with fail
  go_ret
  exact ⟨rfl, hBr⟩
end Go.Proofs.YtfjbmenakcnadaaDoor

/- What is proved: what the document's own Print, and tell of tokens. -/
namespace Go.Proofs.YtfjbmenakcnadaaDoor
open Go.RowKit Go.Shelf
open Lx (T)

theorem add_to (a b c : List UInt8) (h : a.length + b.length ≤ 100000000000) (hc : c = a ++ b) (w : World) : (Op.stringOp .add ⟨a.toArray⟩ ⟨b.toArray⟩).run Tryd.prog w = .ok (.string ⟨c.toArray⟩) w := by
  rw [hc]; exact add_run a b h w

/-- What a fold over tokens prints, one behind the other, each with a byte ahead or not. -/
def prW (w : T → List UInt8) (ts : List T) : List UInt8 := ts.flatMap fun t => w t ++ t.text
theorem prW_take_succ (w : T → List UInt8) (ts : List T) (k : Nat) (t : T) (h : ts[k]? = some t) : prW w (ts.take (k + 1)) = prW w (ts.take k) ++ (w t ++ t.text) := by
  obtain ⟨hk, e⟩ := List.getElem?_eq_some_iff.1 h
  rw [List.take_succ_eq_append_getElem hk, e]
  simp [prW]
theorem prW_take_le (w : T → List UInt8) (ts : List T) (k : Nat) : (prW w (ts.take k)).length ≤ (prW w ts).length := by
  have e : prW w ts = prW w (ts.take k) ++ prW w (ts.drop k) := by
    unfold prW
    rw [← List.flatMap_append, List.take_append_drop]
  rw [e]; simp
def spW (t : T) : List UInt8 := if t.bl then [32] else []
def usW (t : T) : List UInt8 := if t.bl then [32] else [95]
theorem pr_prW (ts : List T) : Lx.pr ts = prW spW ts := by
  unfold Lx.pr Lx.prA prW
  rw [List.flatMap_map]
  rfl

set_option maxRecDepth 100000 in
set_option maxHeartbeats 4000000 in
theorem rprint_any (v : Value) (f : Int) (ts : List T) (w : World) (hv : Toks w v f ts) (hl : ts.length ≤ 1000000000) (hp : (Lx.pr ts).length ≤ 1000000000) :
    Calls Tryd.prog 42 #[v] w fun e w' => e = .returned (.string ⟨(Lx.pr ts).toArray⟩) ∧ w = w' := by
  obtain ⟨ad, cap, rfl, -⟩ := id hv
  rw [pr_prW] at hp ⊢
  rcases Nat.eq_zero_or_pos ts.length with h0 | hpos
  · obtain rfl : ts = [] := List.length_eq_zero_iff.1 h0
    clear hv
    go_enter Tryd.func42, Tryd.ntmps42
    go_wp2_with fail
    go_loop [3, 4] (fun s i => s = .string ⟨#[]⟩ ∧ i = .int .i64 0) (fun _ _ => 0)
    case atStart => exact ⟨rfl, rfl⟩
    case round =>
      obtain ⟨rfl, rfl⟩ := hrel
      go_wp2_with fail
      go_ret
      exact ⟨rfl, rfl⟩
  · obtain ⟨g, o, rfl, -, hcap, hmax, hg, hc⟩ := hv.cells hpos
    unfold maxLen at hmax
    obtain ⟨n, hn⟩ : ∃ n, n = ts.length := ⟨_, rfl⟩
    rw [← hn] at hl hcap hpos
    rw [← hn]
    obtain ⟨X, hX⟩ : ∃ X, X = prW spW ts := ⟨_, rfl⟩
    rw [← hX] at hp ⊢
    have HXx := Lib.hid hX
    have Hn := Lib.hid hn
    have HC := Lib.hid hc
    clear hn hc hv hX
    go_enter Tryd.func42, Tryd.ntmps42
    go_wp2_with fail
    go_loop [3, 4] (fun s i => ∃ (k : Nat) (A : List UInt8), i = .int .i64 k ∧ k ≤ n ∧ s = .string ⟨A.toArray⟩ ∧ A = prW spW (ts.take k)) (fun _ i => n - (intOf i).toNat)
    case atStart => exact ⟨0, [], rfl, Nat.zero_le _, rfl, rfl⟩
    case round =>
      obtain ⟨k, A, rfl, hk, rfl, hA⟩ := hrel
      by_cases hlt : k < n
      · obtain ⟨t, ht⟩ : ∃ t, ts[k]? = some t := ⟨_, List.getElem?_eq_getElem (by rw [← Hn.out]; exact hlt)⟩
        obtain ⟨d0, d1, d2, d3, d4, d5⟩ := HC.out k t ht
        have hst := prW_take_succ spW ts k t ht
        have hle := prW_take_le spW ts (k + 1)
        rw [← HXx.out, hst] at hle
        rw [← hA] at hst hle
        simp only [List.length_append] at hle
        obtain ⟨tx, htx⟩ : ∃ tx, tx = t.text := ⟨_, rfl⟩
        rw [← htx] at d1 hst hle
        cases hbl : t.bl with
        | true =>
          have hsw : spW t = [32] := by unfold spW; rw [hbl]; rfl
          rw [hbl] at d5
          rw [hsw] at hst hle
          obtain ⟨B, hB⟩ : ∃ B, B = A ++ [32] := ⟨_, rfl⟩
          obtain ⟨C, hC⟩ : ∃ C, C = B ++ tx := ⟨_, rfl⟩
          have hle2 : A.length + (1 + tx.length) ≤ 1000000000 := by simp at hle; omega
          have a1 : ∀ W, (Op.stringOp .add ⟨A.toArray⟩ ⟨#[32]⟩).run Tryd.prog W = .ok (.string ⟨B.toArray⟩) W := fun W => add_to A [32] B (by simp; omega) hB W
          have a2 : ∀ W, (Op.stringOp .add ⟨B.toArray⟩ ⟨tx.toArray⟩).run Tryd.prog W = .ok (.string ⟨C.toArray⟩) W := fun W => add_to B tx C (by rw [hB]; simp; omega) hC W
          have HS := Lib.hid (show C = prW spW (ts.take (k + 1)) by rw [hst, hC, hB]; simp)
          clear ht hst hA htx hle hbl hsw hB hC hle2
          go_wp2_with fail
          go_round
          case rel => exact ⟨k + 1, C, by go_num, by omega, rfl, HS.out⟩
          case measure => simp [intOf]; omega
        | false =>
          have hsw : spW t = [] := by unfold spW; rw [hbl]; rfl
          rw [hbl] at d5
          rw [hsw] at hst hle
          obtain ⟨C, hC⟩ : ∃ C, C = A ++ tx := ⟨_, rfl⟩
          have hle2 : A.length + tx.length ≤ 1000000000 := by simp at hle; omega
          have a2 : ∀ W, (Op.stringOp .add ⟨A.toArray⟩ ⟨tx.toArray⟩).run Tryd.prog W = .ok (.string ⟨C.toArray⟩) W := fun W => add_to A tx C (by omega) hC W
          have HS := Lib.hid (show C = prW spW (ts.take (k + 1)) by rw [hst, hC]; simp)
          clear ht hst hA htx hle hbl hsw hC hle2
          go_wp2_with fail
          go_round
          case rel => exact ⟨k + 1, C, by go_num, by omega, rfl, HS.out⟩
          case measure => simp [intOf]; omega
      · have he : A = X := by rw [hA, HXx.out, List.take_of_length_le (by rw [← Hn.out]; omega)]
        subst he
        clear hA
        go_wp2_with fail
        go_ret
        exact ⟨rfl, rfl⟩

end Go.Proofs.YtfjbmenakcnadaaDoor
