/- What is proved: what the document's own Define tells, from its body's tests on. (and what stands with it) -/
import Derived.Test.YtfjbmenakcnadaaDoorGk

/- What is proved: what the document's own Define tells, from its body's tests on. -/
namespace Go.Proofs.YtfjbmenakcnadaaDoor
open Go.RowKit Go.Shelf Go.WideMaps

/-- What stands behind so many statements. -/
def secs : Nat → Code → Code
  | 0, c => c
  | n + 1, .seq _ b => secs n b
  | _, c => c
def fstC : Code → Code
  | .seq a _ => a
  | c => c
def isSeq : Code → Bool
  | .seq _ _ => true
  | _ => false
theorem secs_succ : ∀ (n : Nat) (c : Code), isSeq (secs n c) = true → secs n c = .seq (fstC (secs n c)) (secs (n + 1) c)
  | 0, .seq a b, _ => rfl
  | n + 1, .seq a b, h => secs_succ n b h
  | n + 1, .skip, h => by simp [secs, isSeq] at h
  | n + 1, .region _ _ _, h => by simp [secs, isSeq] at h
  | n + 1, .cond _ _ _, h => by simp [secs, isSeq] at h
  | n + 1, .loop _, h => by simp [secs, isSeq] at h
  | n + 1, .block _ _, h => by simp [secs, isSeq] at h
  | n + 1, .scope _, h => by simp [secs, isSeq] at h
  | n + 1, .label _, h => by simp [secs, isSeq] at h
  | n + 1, .exit _, h => by simp [secs, isSeq] at h
  | n + 1, .goto _, h => by simp [secs, isSeq] at h
  | n + 1, .ret, h => by simp [secs, isSeq] at h
/-- A statement, and what stands behind it. -/
theorem wp_sec {P : Program} {Q : Exit → Act → World → Prop} {a : Act} {w : World} (n : Nat) (c : Code) (hs : isSeq (secs n c) = true)
    (h : (fstC (secs n c)).wp P (Exit.then (fun a w => (secs (n + 1) c).wp P Q a w) Q) a w) : (secs n c).wp P Q a w := by
  rw [secs_succ n c hs]
  exact wp_seq h
noncomputable def defBody : Code := Tryd.f11.body.getD .skip

theorem zeros_below' (w W : World) (h : Below w.heap.size w W) (a b c d e : Value) :
    Below w.heap.size w (((((W.setCell ⟨w.heap.size, 0, none⟩ a).setCell ⟨w.heap.size, 1, none⟩ b).setCell ⟨w.heap.size, 2, none⟩ c).setCell ⟨w.heap.size, 3, none⟩ d).setCell ⟨w.heap.size, 4, none⟩ e) :=
  ((((h.setCell (Nat.le_refl _) _).setCell (Nat.le_refl _) _).setCell (Nat.le_refl _) _).setCell (Nat.le_refl _) _).setCell (Nat.le_refl _) _
theorem vaIn_take (b : List K) (k : Nat) (x : K) (h : b[k]? = some x) : Mx.vaIn (b.take (k + 1)) = (Mx.vaIn (b.take k) || (x.kind == 1 && decide (x.text = Mx.VA))) := by
  rw [List.take_add_one, h]
  simp [Mx.vaIn]
theorem def_fin {w W : World} {tx : ByteArray} {fn va : Bool} {pv bv : Value} {ps : List ByteArray} {body : List K} {res : Mx.M × Int} (hr : res = (⟨tx, fn, ps, va, body⟩, 0))
    (hRD : RD W w.heap.size tx fn pv ps va bv) (hrow : W.ownsRow (w.heap.size + 3) 39 6 bv body.length (ksCells body)) (hB : Below w.heap.size w W) :
    (((((W.setCell ⟨w.heap.size, 0, none⟩ (.string tx)).setCell ⟨w.heap.size, 1, none⟩ (.bool fn)).setCell ⟨w.heap.size, 2, none⟩ pv).setCell ⟨w.heap.size, 3, none⟩ (.bool va)).setCell ⟨w.heap.size, 4, none⟩ bv).heap[w.heap.size]? = some (.cells #[.string tx, .bool fn, pv, .bool va, bv] 26 (0, 0)) ∧
    DefPost w res (.returned (.tuple #[.agg #[.string tx, .bool fn, pv, .bool va, bv], .int .i64 0])) (((((W.setCell ⟨w.heap.size, 0, none⟩ (.string tx)).setCell ⟨w.heap.size, 1, none⟩ (.bool fn)).setCell ⟨w.heap.size, 2, none⟩ pv).setCell ⟨w.heap.size, 3, none⟩ (.bool va)).setCell ⟨w.heap.size, 4, none⟩ bv) := by
  subst hr
  have st : ∀ {W : World} (i : Nat) (u : Value), W.ownsRow (w.heap.size + 3) 9 1 pv ps.length (strCells ps) → (W.setCell ⟨w.heap.size, i, none⟩ u).ownsRow (w.heap.size + 3) 9 1 pv ps.length (strCells ps) :=
    fun i u h => ownsRow_setCell_below h (show w.heap.size < w.heap.size + 3 by omega) u
  have st' : ∀ {W : World} (i : Nat) (u : Value), W.ownsRow (w.heap.size + 3) 39 6 bv body.length (ksCells body) → (W.setCell ⟨w.heap.size, i, none⟩ u).ownsRow (w.heap.size + 3) 39 6 bv body.length (ksCells body) :=
    fun i u h => ownsRow_setCell_below h (show w.heap.size < w.heap.size + 3 by omega) u
  refine ⟨?_, _, rfl, ⟨pv, bv, rfl, ?_, ?_⟩, zeros_below' w W hB _ _ _ _ _⟩
  · simp [World.setCell, Array.getElem?_modify, hRD.b0, zeroCells]
  · exact (st 4 _ (st 3 _ (st 2 _ (st 1 _ (st 0 _ hRD.prow))))).mono (by omega)
  · exact (st' 4 _ (st' 3 _ (st' 2 _ (st' 1 _ (st' 0 _ hrow))))).mono (by omega)
theorem vaIn_hit (b : List K) (k : Nat) (x : K) (h : b[k]? = some x) (hx : (x.kind == 1 && decide (x.text = Mx.VA)) = true) : Mx.vaIn b = true :=
  List.any_eq_true.2 ⟨x, List.mem_of_getElem? h, hx⟩

set_option maxRecDepth 100000 in
set_option maxHeartbeats 4000000 in
theorem rdef_va (w wr : World) (tx : ByteArray) (fn va : Bool) (ps : List ByteArray) (pv bv sv : Value) (b : List K) (res : Mx.M × Int) (nb cb gb ob : Nat)
    (hsv : sv = .slice (some ⟨gb, ob, none⟩) nb cb) (hnb : nb = b.length) (hle : nb ≤ 2513169434915) (_hcb : nb ≤ cb) (_hcm : cb ≤ maxLen)
    (hK : ∀ i x, b[i]? = some x → KAt wr gb (ob + i * 6) x)
    (hRD : RD wr w.heap.size tx fn pv ps va bv) (hrow : wr.ownsRow (w.heap.size + 3) 39 6 bv nb (ksCells (Mx.bare b))) (hB : Below w.heap.size w wr)
    (hres : res = if !va && Mx.vaIn b then (.zero, 65) else (⟨tx, fn, ps, va, Mx.bare b⟩, 0))
    (c0 c1 c3 c7 c8 c9 c10 c11 c12 c13 c14 c15 c16 c17 c18 c19 c20 c21 c22 c23 c24 c25 c26 c27 c28 c29 c30 c31 c32 c33 c34 c35 c36 c37 c38 c39 c40 c41 c42 c43 c44 c45 c46 c47 c48 c49 c50 c51 c52 c53 c54 c55 c56 c57 c58 c59 c60 c61 c62 c63 c64 c65 c66 c67 c68 c69 c70 c71 c72 c73 c74 c75 c76 c77 c78 c79 c80 c81 c82 c83 c84 c85 c86 c87 c88 c89 c90 c91 c92 c93 c94 c95 c96 c97 c98 c99 c100 c101 c102 c103 c104 c105 c106 c107 c108 c109 c110 c111 c112 c113 c114 c115 c116 c117 c118 c119 c120 c121 c122 c123 c124 c125 c126 c127 c128 c129 c130 c131 c132 c133 c134 c135 c136 c137 c138 c139 c140 c141 c142 c143 c144 c145 c146 c147 c148 c149 c150 c151 c152 c153 c154 c155 c156 c157 c158 c159 c160 c161 c162 c163 c164 c165 c166 c167 c168 c169 c170 c171 c172 c173 c174 c175 c176 c177 c178 c179 c180 c181 c182 c183 c184 c185 c186 c187 c188 c189 c190 c191 c192 c193 : Value) :
    Code.wp Tryd.prog (secs 10 defBody) (bodyPost Tryd.prog Tryd.f11 (DefPost w res)) ⟨#[c0, c1, .pointer (some ⟨w.heap.size, 0, none⟩), c3, .pointer (some ⟨w.heap.size + 1, 0, none⟩), .pointer (some ⟨w.heap.size + 1 + 1, 0, none⟩), sv, c7, c8, c9, c10, c11, c12, c13, c14, c15, c16, c17, c18, c19, c20, c21, c22, c23, c24, c25, c26, c27, c28, c29, c30, c31, c32, c33, c34, c35, c36, c37, c38, c39, c40, c41, c42, c43, c44, c45, c46, c47, c48, c49, c50, c51, c52, c53, c54, c55, c56, c57, c58, c59, c60, c61, c62, c63, c64, c65, c66, c67, c68, c69, c70, c71, c72, c73, c74, c75, c76, c77, c78, c79, c80, c81, c82, c83, c84, c85, c86, c87, c88, c89, c90, c91, c92, c93, c94, c95, c96, c97, c98, c99, c100, c101, c102, c103, c104, c105, c106, c107, c108, c109, c110, c111, c112, c113, c114, c115, c116, c117, c118, c119, c120, c121, c122, c123, c124, c125, c126, c127, c128, c129, c130, c131, c132, c133, c134, c135, c136, c137, c138, c139, c140, c141, c142, c143, c144, c145, c146, c147, c148, c149, c150, c151, c152, c153, c154, c155, c156, c157, c158, c159, c160, c161, c162, c163, c164, c165, c166, c167, c168, c169, c170, c171, c172, c173, c174, c175, c176, c177, c178, c179, c180, c181, c182, c183, c184, c185, c186, c187, c188, c189, c190, c191, c192, c193], []⟩ wr := by
  subst hsv
  obtain ⟨pa, pn, pc, rfl⟩ := row_slice hRD.prow
  obtain ⟨ba, bm, bc, rfl⟩ := row_slice hrow
  have HRES := Lib.hid hres
  have HK := Lib.hid hK
  have HRD := Lib.hid hRD
  have HROW := Lib.hid hrow
  have HB := Lib.hid hB
  have Hnb := Lib.hid hnb
  clear hres hK hRD hrow hB hnb
  conv => arg 2; whnf
  obtain ⟨x0, x1, x2, x3, x4⟩ := zero_cells HRD.out.b0
  obtain ⟨z0, z1, z2, z3, z4⟩ := zero_cells HRD.out.b1
  have hr0 := lt_of_block HRD.out.b0
  have hr1 := lt_of_block HRD.out.b1
  have hr2 : w.heap.size + 1 + 1 < wr.heap.size := lt_of_block HRD.out.b2
  have f0 : ∀ i, wr.frozen? ⟨w.heap.size, i, none⟩ = false := fun i => by simp [World.frozen?, HRD.out.b0]
  have g0 : wr.cell? ⟨w.heap.size + 1 + 1, 0, none⟩ = some (.string tx) := (Lib.cell_of_heap HRD.out.b2 0).trans rfl
  have g1 : wr.cell? ⟨w.heap.size + 1 + 1, 1, none⟩ = some (.bool fn) := (Lib.cell_of_heap HRD.out.b2 1).trans rfl
  have g2 : wr.cell? ⟨w.heap.size + 1 + 1, 2, none⟩ = some (.slice pa pn pc) := (Lib.cell_of_heap HRD.out.b2 2).trans rfl
  have g3 : wr.cell? ⟨w.heap.size + 1 + 1, 3, none⟩ = some (.bool va) := (Lib.cell_of_heap HRD.out.b2 3).trans rfl
  have g4 : wr.cell? ⟨w.heap.size + 1 + 1, 4, none⟩ = some (.slice ba bm bc) := (Lib.cell_of_heap HRD.out.b2 4).trans rfl
  go_wp2_with fail
  go_loop [17] (fun i => ∃ k : Nat, i = .int .i64 k ∧ k ≤ nb ∧ (!va && Mx.vaIn (b.take k)) = false) (fun i => nb - (intOf i).toNat)
  case atStart => exact ⟨0, rfl, Nat.zero_le _, by simp [Mx.vaIn]⟩
  case round =>
    obtain ⟨k, rfl, hk, hno⟩ := hrel
    have HNO := Lib.hid hno
    clear hno
    by_cases hlt : k < nb
    · obtain ⟨x, hx⟩ : ∃ x, b[k]? = some x := ⟨_, List.getElem?_eq_getElem (by rw [← Hnb.out]; exact hlt)⟩
      obtain ⟨a0, a1, -, -, -, -⟩ := HK.out k x hx
      have hgl := lt_of_cell a0
      have y1 : (0 : Int) ≤ k := by omega
      have y2 : (k : Int) < nb := by omega
      have HX := Lib.hid hx
      clear hx
      by_cases h1 : x.kind = 1
      · have t1 : (x.kind == 1) = true := by simpa using h1
        by_cases h2 : x.text = Mx.VA
        · have t2 : (x.text.toList == [95, 95, 86, 65, 95, 65, 82, 71, 83, 95, 95]) = true := lit_yes h2
          have HQ := Lib.hid (show (x.kind == 1 && decide (x.text = Mx.VA)) = true by rw [t1, decide_eq_true h2]; rfl)
          clear h1 h2
          cases va
          · have HE := Lib.hid (show res = (.zero, 65) by
              rw [HRES.out, vaIn_hit b k x HX.out HQ.out]; rfl)
            go_wp2_with fail
            have hz := zeros_set wr w.heap.size HRD.out.b0
            have hzB := zeros_below w wr w.heap.size (Nat.le_refl _) HB.out
            generalize hWf : ((((wr.setCell ⟨w.heap.size, 0, none⟩ (.string ⟨#[]⟩)).setCell ⟨w.heap.size, 1, none⟩ (.bool false)).setCell ⟨w.heap.size, 2, none⟩ (.slice none 0 0)).setCell ⟨w.heap.size, 3, none⟩ (.bool false)).setCell ⟨w.heap.size, 4, none⟩ (.slice none 0 0) = Wf at hz hzB ⊢
            obtain ⟨s0, s1, s2, s3, s4⟩ := zero_cells hz
            refine bodyPost_ret (v := .tuple #[.agg #[.string ⟨#[]⟩, .bool false, .slice none 0 0, .bool false, .slice none 0 0], .int .i64 65]) (by simp [results, Tryd.results11, go_sem, s0, s1, s2, s3, s4]) rfl ?_
            exact def_zero HE.out hzB
          · go_wp2_with fail
            go_round
            case rel => exact ⟨k + 1, by go_num, by omega, rfl⟩
            case measure => simp [intOf]; omega
        · have t2 : (x.text.toList == [95, 95, 86, 65, 95, 65, 82, 71, 83, 95, 95]) = false := lit_no h2
          have HNX := Lib.hid (show (!va && Mx.vaIn (b.take (k + 1))) = false by rw [vaIn_take b k x HX.out, decide_eq_false h2, Bool.and_false, Bool.or_false]; exact HNO.out)
          clear h1 h2
          go_wp2_with fail
          go_round
          case rel => exact ⟨k + 1, by go_num, by omega, HNX.out⟩
          case measure => simp [intOf]; omega
      · have t1 : (x.kind == 1) = false := by simpa using h1
        have HNX := Lib.hid (show (!va && Mx.vaIn (b.take (k + 1))) = false by rw [vaIn_take b k x HX.out, t1, Bool.false_and, Bool.or_false]; exact HNO.out)
        clear h1
        go_wp2_with fail
        go_round
        case rel => exact ⟨k + 1, by go_num, by omega, HNX.out⟩
        case measure => simp [intOf]; omega
    · have HE := Lib.hid (show res = (⟨tx, fn, ps, va, Mx.bare b⟩, 0) by
        have := HNO.out
        rw [List.take_of_length_le (by rw [← Hnb.out]; omega)] at this
        rw [HRES.out, this]; rfl)
      have y2 : ¬ (k : Int) < nb := by omega
      go_wp2_with fail
      have hrow' := HROW.out
      rw [show nb = (Mx.bare b).length by rw [bare_len, Hnb.out]] at hrow'
      obtain ⟨hz, hpost⟩ := def_fin HE.out HRD.out hrow' HB.out
      generalize hWf : ((((wr.setCell ⟨w.heap.size, 0, none⟩ (.string tx)).setCell ⟨w.heap.size, 1, none⟩ (.bool fn)).setCell ⟨w.heap.size, 2, none⟩ (.slice pa pn pc)).setCell ⟨w.heap.size, 3, none⟩ (.bool va)).setCell ⟨w.heap.size, 4, none⟩ (.slice ba bm bc) = Wf at hz hpost ⊢
      have s0 := (Lib.cell_of_heap hz 0).trans rfl
      have s1 := (Lib.cell_of_heap hz 1).trans rfl
      have s2 := (Lib.cell_of_heap hz 2).trans rfl
      have s3 := (Lib.cell_of_heap hz 3).trans rfl
      have s4 := (Lib.cell_of_heap hz 4).trans rfl
      refine bodyPost_ret (v := .tuple #[.agg #[.string tx, .bool fn, .slice pa pn pc, .bool va, .slice ba bm bc], .int .i64 0]) (by simp [results, Tryd.results11, go_sem, s0, s1, s2, s3, s4]) rfl ?_
      exact hpost

end Go.Proofs.YtfjbmenakcnadaaDoor

/- What is proved: what Same tells of any two macros. -/
namespace Go.Proofs.YtfjbmenakcnadaaDoor
open Go.RowKit Go.Shelf Go.WideMaps

theorem lit_ne {a b : ByteArray} (h : ¬ a = b) : (a.toList == b.toList) = false := by rw [ba_beq]; exact decide_eq_false h

set_option maxRecDepth 100000 in
set_option maxHeartbeats 2000000 in
theorem eqs_any (v u : Value) (ps qs : List ByteArray) (w : World) (hv : Sts w v ps) (hu : Sts w u qs) :
    Calls Tryd.prog 33 #[v, u] w fun e w' => e = .returned (.bool (decide (ps = qs))) ∧ Below w.heap.size w w' := by
  by_cases hl : ps.length = qs.length
  · rcases Nat.eq_zero_or_pos ps.length with h0 | hpos
    · obtain ⟨ad, cap, rfl, -, -, -⟩ := hv
      obtain ⟨ad', cap', rfl, -, -, -⟩ := hu
      rw [h0, ← hl, h0]
      refine (Any.slices_Equal_string_empty lays193 ad ad' cap 0 cap' w (by decide)).mono ?_
      rintro e w' ⟨rfl, rfl⟩
      obtain rfl := List.length_eq_zero_iff.1 h0
      obtain rfl := List.length_eq_zero_iff.1 hl.symm
      exact ⟨rfl, Below.refl _ _⟩
    · obtain ⟨g, o, cap, rfl, h1, h2, -, h3⟩ := hv.cells hpos
      obtain ⟨g', o', cap', rfl, h1', h2', -, h3'⟩ := hu.cells (hl ▸ hpos)
      unfold maxLen at h2 h2'
      have key := Any.slices_Equal_string lays193 g o ps.length cap g' o' qs.length cap' ps qs w (Nat.le_refl _) (Nat.le_refl _) (by omega) (by omega)
        (fun j hj => by rw [List.getD_eq_getElem?_getD, List.getElem?_eq_getElem hj]; exact h3 j _ (List.getElem?_eq_getElem hj))
        (fun j hj => by rw [List.getD_eq_getElem?_getD, List.getElem?_eq_getElem hj]; exact h3' j _ (List.getElem?_eq_getElem hj))
      refine key.mono ?_
      rintro e w' ⟨rfl, q, rfl⟩
      rw [List.take_length, List.take_length]
      exact ⟨rfl, below_drewN (Below.refl _ _) _⟩
  · obtain ⟨ad, cap, rfl, -, -, -⟩ := hv
    obtain ⟨ad', cap', rfl, -, -, -⟩ := hu
    rw [show decide (ps = qs) = false from decide_eq_false fun e => hl (by rw [e])]
    have z : ((ps.length : Int) != qs.length) = true := by simp; omega
    have z2 : ¬ (ps.length : Int) = qs.length := by omega
    go_enter Tryd.func33, Tryd.ntmps33
    go_wp2_with fail
    go_ret
    exact ⟨rfl, Below.refl _ _⟩

namespace Mx
def kal (t : K) : Int × ByteArray × Bool := (t.kind, t.text, t.bl)
/-- Are two bodies one? -/
def sameB (a b : List K) : Bool := decide ((bare a).map kal = (bare b).map kal)
/-- Are two macros one? -/
def same (a b : M) : Bool := decide (a.name = b.name) && (a.fn == b.fn && (a.va == b.va && (decide (a.ps = b.ps) && sameB a.body b.body)))
theorem bare_get (l : List K) (i : Nat) : (bare l)[i]? = (l[i]?).map fun t => if i = 0 then { t with bl := false } else t := by
  cases l with
  | nil => rfl
  | cons t r => cases i <;> simp [bare]
theorem bare_length (l : List K) : (bare l).length = l.length := by cases l <;> rfl
/-- Two bodies are alike so far. -/
def alikeTo (a b : List K) (k : Nat) : Prop := ∀ i, i < k → ((bare a)[i]?).map kal = ((bare b)[i]?).map kal
theorem alike_all {a b : List K} (h : a.length = b.length) (ha : alikeTo a b a.length) : sameB a b = true := by
  refine decide_eq_true (List.ext_getElem? fun i => ?_)
  rw [List.getElem?_map, List.getElem?_map]
  rcases Nat.lt_or_ge i a.length with hi | hi
  · exact ha i hi
  · rw [List.getElem?_eq_none (by rw [bare_length]; exact hi), List.getElem?_eq_none (by rw [bare_length]; omega)]
theorem alike_not {a b : List K} {i : Nat} (h : ((bare a)[i]?).map kal ≠ ((bare b)[i]?).map kal) : sameB a b = false := by
  refine decide_eq_false fun e => h ?_
  rw [← List.getElem?_map, ← List.getElem?_map, e]
theorem alike_len {a b : List K} (h : a.length ≠ b.length) : sameB a b = false := by
  refine decide_eq_false fun e => h ?_
  have := congrArg List.length e
  simpa [bare_length] using this
end Mx
instance : DecidableEq K := fun a b => decidable_of_iff (a.kind = b.kind ∧ a.text = b.text ∧ a.file = b.file ∧ a.fr = b.fr ∧ a.en = b.en ∧ a.bl = b.bl) ⟨fun h => by
  obtain ⟨h1, h2, h3, h4, h5, h6⟩ := h; cases a; cases b; simp_all, fun h => by subst h; simp⟩

set_option maxRecDepth 100000 in
set_option maxHeartbeats 2000000 in
theorem sameBody_any (v u : Value) (ts us : List K) (w : World) (hv : Ks w v ts) (hu : Ks w u us) :
    Calls Tryd.prog 34 #[v, u] w fun e w' => e = .returned (.bool (Mx.sameB ts us)) ∧ Below w.heap.size w w' := by
  obtain ⟨ad, cap, rfl, h1, h2, h3⟩ := id hv
  obtain ⟨ad', cap', rfl, h1', h2', h3'⟩ := id hu
  unfold maxLen at h2 h2'
  by_cases hl : ts.length = us.length
  · obtain ⟨res, hres⟩ : ∃ res, res = Mx.sameB ts us := ⟨_, rfl⟩
    rw [← hres]
    obtain ⟨n, hn⟩ : ∃ n, n = ts.length := ⟨_, rfl⟩
    rw [← hl, ← hn]
    rw [← hl, ← hn] at h1'
    rw [← hn] at h1
    have Hn := Lib.hid hn
    have Hn' := Lib.hid (hn.trans hl)
    have H3 := Lib.hid h3
    have H3' := Lib.hid h3'
    have HRES := Lib.hid hres
    clear hv hu h3 h3' hn hl hres
    go_enter Tryd.func34, Tryd.ntmps34
    go_wp2_with fail
    go_loopw [14] (fun i wr => ∃ k : Nat, i = .int .i64 k ∧ k ≤ n ∧ Below w.heap.size w wr ∧ Mx.alikeTo ts us k) (fun i _ => n - (intOf i).toNat)
    case atStart => exact ⟨0, rfl, Nat.zero_le _, Below.refl _ _, fun i hi => absurd hi (Nat.not_lt_zero _)⟩
    case round =>
      obtain ⟨k, rfl, hk, hB, hal⟩ := hrel
      by_cases hlt : k < n
      · obtain ⟨t, ht⟩ : ∃ t, ts[k]? = some t := ⟨_, List.getElem?_eq_getElem (by rw [← Hn.out]; exact hlt)⟩
        obtain ⟨s, hs⟩ : ∃ s, us[k]? = some s := ⟨_, List.getElem?_eq_getElem (by rw [← Hn'.out]; exact hlt)⟩
        obtain ⟨g, o, e1, ha⟩ := H3.out k t ht
        obtain ⟨g', o', e1', ha'⟩ := H3'.out k s hs
        subst e1 e1'
        have hgl := lt_of_cell ha.1
        have hgl' := lt_of_cell ha'.1
        obtain ⟨a0, a1, a2, a3, a4, a5⟩ := ha.below hB hgl
        obtain ⟨b0, b1, b2, b3, b4, b5⟩ := ha'.below hB hgl'
        have hg1 := lt_of_cell a0
        have hg2 := lt_of_cell b0
        have y1 : (0 : Int) ≤ k := by omega
        have y2 : (k : Int) < n := by omega
        have ga : ((Mx.bare ts)[k]?).map Mx.kal = some (t.kind, t.text, if k = 0 then false else t.bl) := by
          rw [Mx.bare_get, ht]; by_cases h0 : k = 0 <;> simp [Mx.kal, h0]
        have gb : ((Mx.bare us)[k]?).map Mx.kal = some (s.kind, s.text, if k = 0 then false else s.bl) := by
          rw [Mx.bare_get, hs]; by_cases h0 : k = 0 <;> simp [Mx.kal, h0]
        have GA := Lib.hid ga
        have GB := Lib.hid gb
        have HAL := Lib.hid hal
        clear ga gb ht hs hal ha ha'
        have hBx := hB.alloc hB.size (.cells #[.int .i64 t.kind, .string t.text, .int .i64 t.file, .int .i64 t.fr, .int .i64 t.en, .bool t.bl] 39)
        have HBX := Lib.hid hBx
        clear hBx
        obtain ⟨kd, tx, tf, tfr, ten, tbl⟩ := t
        obtain ⟨kd', tx', tf', tfr', ten', tbl'⟩ := s
        dsimp only at a0 a1 a2 a3 a4 a5 b0 b1 b2 b3 b4 b5 HBX GA GB
        by_cases hkd : kd = kd'
        · subst hkd
          have t3 : (kd != kd) = false := by simp
          by_cases htx : tx = tx'
          · subst htx
            have t4 : (tx.toList != tx.toList) = false := by simp
            rcases Nat.eq_zero_or_pos k with rfl | hk0
            · have HN1 := Lib.hid (show Mx.alikeTo ts us 1 from fun i hi => by
                obtain rfl : i = 0 := by omega
                rw [GA.out, GB.out]; simp)
              simp only [Nat.zero_mul, Nat.add_zero] at a0 a1 a2 a3 a4 a5 b0 b1 b2 b3 b4 b5
              go_wp2_with fail
              go_quiet (fail)
              go_wp2_with fail
              go_quiet (fail)
              go_wp2_with fail
              go_roundw
              case rel => exact ⟨1, by go_num, by omega, below_drewN HBX.out _, HN1.out⟩
              case measure => simp [intOf]; omega
            · have y3 : (0 : Int) < k := by omega
              by_cases hbl : tbl = tbl'
              · subst hbl
                have t5 : (tbl != tbl) = false := by simp
                have HN1 := Lib.hid (show Mx.alikeTo ts us (k + 1) from fun i hi => by
                  rcases Nat.lt_or_ge i k with h | h
                  · exact HAL.out i h
                  · obtain rfl : i = k := by omega
                    rw [GA.out, GB.out])
                go_wp2_with fail
                go_quiet (fail)
                go_wp2_with fail
                go_quiet (fail)
                go_wp2_with fail
                go_roundw
                case rel => exact ⟨k + 1, by go_num, by omega, below_drewN HBX.out _, HN1.out⟩
                case measure => simp [intOf]; omega
              · have HE := Lib.hid (show res = false by rw [HRES.out]; exact Mx.alike_not (i := k) (by rw [GA.out, GB.out]; simp [hbl, Nat.pos_iff_ne_zero.1 hk0]))
                cases tbl <;> cases tbl'
                all_goals
                  first
                  | exact absurd rfl hbl
                  | (clear hbl
                     go_wp2_with fail
                     go_quiet (fail)
                     go_wp2_with fail
                     go_quiet (fail)
                     go_wp2_with fail
                     go_ret
                     first
                     | exact ⟨by rw [HE.out]; rfl, below_drewN HBX.out _⟩
                     | exact ⟨by rw [HE.out]; rfl, below_drewN (below_drewN HBX.out _) _⟩)
          · have HE := Lib.hid (show res = false by rw [HRES.out]; exact Mx.alike_not (i := k) (by rw [GA.out, GB.out]; simp [htx]))
            have t6 := lit_ne htx
            have t4 : (tx.toList != tx'.toList) = true := by simpa using t6
            clear htx
            go_wp2_with fail
            go_quiet (fail)
            go_wp2_with fail
            go_ret
            exact ⟨by rw [HE.out]; rfl, below_drewN HBX.out _⟩
        · have HE := Lib.hid (show res = false by rw [HRES.out]; exact Mx.alike_not (i := k) (by rw [GA.out, GB.out]; simp [hkd]))
          have t3 : (kd != kd') = true := by simpa using hkd
          clear hkd
          go_wp2_with fail
          go_quiet (fail)
          go_wp2_with fail
          go_ret
          exact ⟨by rw [HE.out]; rfl, below_drewN HBX.out _⟩
      · have HE := Lib.hid (show res = true by
          rw [HRES.out]
          exact Mx.alike_all (Hn.out.symm.trans Hn'.out) (by rw [← Hn.out]; rwa [show n = k by omega]))
        have y3 : ¬ (k : Int) < n := by omega
        clear hal
        go_wp2_with fail
        go_ret
        exact ⟨by rw [HE.out]; rfl, hB⟩
  · obtain ⟨n, hn⟩ : ∃ n, n = ts.length := ⟨_, rfl⟩
    obtain ⟨m, hm⟩ : ∃ m, m = us.length := ⟨_, rfl⟩
    rw [Mx.alike_len hl, ← hn, ← hm]
    rw [← hn, ← hm] at hl
    have z : ((n : Int) != m) = true := by simp; omega
    have z2 : ¬ (n : Int) = m := by omega
    clear hv hu h3 h3' hn hm
    go_enter Tryd.func34, Tryd.ntmps34
    go_wp2_with fail
    go_ret
    exact ⟨rfl, Below.refl _ _⟩
end Go.Proofs.YtfjbmenakcnadaaDoor

/- What is proved: what Same tells of any two macros. -/
namespace Go.Proofs.YtfjbmenakcnadaaDoor
open Go.RowKit Go.Shelf Go.WideMaps

/-- A macro that can be read. -/
def MV (W : World) (v : Value) (m : Mx.M) : Prop :=
  ∃ pv bv, v = .agg #[.string m.name, .bool m.fn, pv, .bool m.va, bv] ∧ Sts W pv m.ps ∧ Ks W bv m.body
theorem Mac.mv {W : World} {base : Nat} {v : Value} {m : Mx.M} (h : Mac W base v m) : MV W v m := by
  obtain ⟨pv, bv, rfl, h1, h2⟩ := h
  exact ⟨pv, bv, rfl, Sts.of_row h1, Ks.of_row h2⟩
theorem MV.below {W W' : World} {v : Value} {m : Mx.M} (h : MV W v m) (hb : Below W.heap.size W W') : MV W' v m := by
  obtain ⟨pv, bv, rfl, h1, h2⟩ := h
  exact ⟨pv, bv, rfl, h1.below hb, h2.below hb⟩

set_option maxRecDepth 100000 in
set_option maxHeartbeats 4000000 in
theorem msame_any (v u : Value) (a b : Mx.M) (w : World) (hv : MV w v a) (hu : MV w u b) :
    Calls Tryd.prog 15 #[v, u] w fun e w' => e = .returned (.bool (Mx.same a b)) ∧ Below w.heap.size w w' := by
  obtain ⟨pv, bv, rfl, hp, hb⟩ := hv
  obtain ⟨pu, bu, rfl, hq, hc⟩ := hu
  obtain ⟨nm, fn, ps, va, body⟩ := a
  obtain ⟨nm', fn', ps', va', body'⟩ := b
  dsimp only at hp hb hq hc ⊢
  obtain ⟨pa, pc, rfl, -⟩ := id hp
  obtain ⟨ba, bc, rfl, -⟩ := id hb
  obtain ⟨qa, qc, rfl, -⟩ := id hq
  obtain ⟨ca, cc, rfl, -⟩ := id hc
  obtain ⟨pn, hpn⟩ : ∃ n, n = ps.length := ⟨_, rfl⟩
  obtain ⟨bn, hbn⟩ : ∃ n, n = body.length := ⟨_, rfl⟩
  obtain ⟨qn, hqn⟩ : ∃ n, n = ps'.length := ⟨_, rfl⟩
  obtain ⟨cn, hcn⟩ : ∃ n, n = body'.length := ⟨_, rfl⟩
  rw [← hpn] at hp ⊢
  rw [← hbn] at hb ⊢
  rw [← hqn] at hq ⊢
  rw [← hcn] at hc ⊢
  obtain ⟨res, hres⟩ : ∃ res, res = Mx.same ⟨nm, fn, ps, va, body⟩ ⟨nm', fn', ps', va', body'⟩ := ⟨_, rfl⟩
  rw [← hres]
  have hB : Below w.heap.size w ((w.alloc (.cells #[.string nm, .bool fn, .slice pa pn pc, .bool va, .slice ba bn bc] 26)).alloc (.cells #[.string nm', .bool fn', .slice qa qn qc, .bool va', .slice ca cn cc] 26)) := ((Below.refl _ w).alloc (Nat.le_refl _) _).alloc (by simp) _
  have HB := Lib.hid hB
  have HP := Lib.hid (hp.below hB)
  have HQ := Lib.hid (hq.below hB)
  have HBd := Lib.hid (hb.below hB)
  have HC := Lib.hid (hc.below hB)
  have HRES := Lib.hid hres
  have k0 := heap_alloc_new w (.cells #[.string nm, .bool fn, .slice pa pn pc, .bool va, .slice ba bn bc] 26)
  replace k0 := (Below.heap_alloc _ (.cells #[.string nm', .bool fn', .slice qa qn qc, .bool va', .slice ca cn cc] 26) _ (lt_of_block k0)).trans k0
  have k1 := heap_alloc_new (w.alloc (.cells #[.string nm, .bool fn, .slice pa pn pc, .bool va, .slice ba bn bc] 26)) (.cells #[.string nm', .bool fn', .slice qa qn qc, .bool va', .slice ca cn cc] 26)
  simp only [World.size_alloc] at k1
  have HK0 := Lib.hid k0
  have HK1 := Lib.hid k1
  clear hp hb hq hc hres hB hpn hbn hqn hcn k0 k1
  by_cases h1 : nm = nm'
  · subst h1
    have t1 : (nm.toList == nm.toList) = true := by simp
    by_cases h2 : fn = fn'
    · subst h2
      by_cases h3 : va = va'
      · subst h3
        by_cases h4 : ps = ps'
        · have HE := Lib.hid (show res = Mx.sameB body body' by rw [HRES.out]; simp [Mx.same, h4])
          have HD := Lib.hid (decide_eq_true h4)
          clear h4
          go_enter Tryd.func15, Tryd.ntmps15
          go_wp2_with fail
          refine (eqs_any _ _ _ _ _ HP.out HQ.out).mono ?_
          rw [show decide (ps = ps') = true from HD.out]
          rintro e W1 ⟨rfl, hB1⟩
          have k0 := (hB1.block _ (lt_of_block HK0.out)).trans HK0.out
          have k1 := (hB1.block _ (lt_of_block HK1.out)).trans HK1.out
          have c0 := (Lib.cell_of_heap k0 4).trans rfl
          have c1 := (Lib.cell_of_heap k1 4).trans rfl
          have hbd := HBd.out.below hB1
          have hcd := HC.out.below hB1
          have hBw := Below.then HB.out hB1
          clear k0 k1 hB1
          go_wp2_with fail
          refine (sameBody_any _ _ _ _ _ hbd hcd).mono ?_
          rintro e W2 ⟨rfl, hB2⟩
          go_wp2_with fail
          go_ret
          exact ⟨by rw [HE.out]; rfl, Below.then hBw hB2⟩
        · have HE := Lib.hid (show res = false by rw [HRES.out]; simp [Mx.same, h4])
          have HD := Lib.hid (decide_eq_false h4)
          clear h4
          go_enter Tryd.func15, Tryd.ntmps15
          go_wp2_with fail
          refine (eqs_any _ _ _ _ _ HP.out HQ.out).mono ?_
          rw [show decide (ps = ps') = false from HD.out]
          rintro e W1 ⟨rfl, hB1⟩
          go_wp2_with fail
          go_ret
          exact ⟨by rw [HE.out]; rfl, Below.then HB.out hB1⟩
      · have HE := Lib.hid (show res = false by rw [HRES.out]; simp [Mx.same, h3])
        cases va <;> cases va'
        all_goals
          first
          | exact absurd rfl h3
          | (clear h3
             go_enter Tryd.func15, Tryd.ntmps15
             go_wp2_with fail
             go_ret
             exact ⟨by rw [HE.out]; rfl, HB.out⟩)
    · have HE := Lib.hid (show res = false by rw [HRES.out]; simp [Mx.same, h2])
      cases fn <;> cases fn'
      all_goals
        first
        | exact absurd rfl h2
        | (clear h2
           go_enter Tryd.func15, Tryd.ntmps15
           go_wp2_with fail
           go_ret
           exact ⟨by rw [HE.out]; rfl, HB.out⟩)
  · have t1 := lit_ne h1
    have HE := Lib.hid (show res = false by rw [HRES.out]; simp [Mx.same, h1])
    clear h1
    go_enter Tryd.func15, Tryd.ntmps15
    go_wp2_with fail
    go_ret
    exact ⟨by rw [HE.out]; rfl, HB.out⟩
end Go.Proofs.YtfjbmenakcnadaaDoor

/- What is proved: what the document's own Same of tokens tells of equal lists. -/
namespace Go.Proofs.YtfjbmenakcnadaaDoor
open Go.RowKit Go.Shelf Go.WideMaps

set_option maxRecDepth 100000 in
set_option maxHeartbeats 4000000 in
theorem ksame_any (v u : Value) (ts : List K) (w : World) (hv : Ks w v ts) (hu : Ks w u ts) (hl : ts.length * 56 ≤ 140737488355328) :
    Calls Tryd.prog 30 #[v, u] w fun e w' => e = .returned (.bool true) ∧ Below w.heap.size w w' := by
  obtain ⟨ad, cap, rfl, -⟩ := id hv
  obtain ⟨ad', cap', rfl, -⟩ := id hu
  rcases Nat.eq_zero_or_pos ts.length with h0 | hpos
  · obtain rfl : ts = [] := List.length_eq_zero_iff.1 h0
    clear hv hu
    go_enter Tryd.func30, Tryd.ntmps30
    go_wp2_with fail
    go_loop [5] (fun i => i = .int .i64 0) (fun _ => 0)
    case atStart => exact rfl
    case round =>
      obtain rfl := hrel
      go_wp2_with fail
      go_ret
      exact ⟨rfl, Below.refl _ _⟩
  · obtain ⟨g, o, rfl, -, hcap, hmax, hg, hc⟩ := hv.cells hpos
    obtain ⟨g', o', rfl, -, hcap', hmax', hg', hc'⟩ := hu.cells hpos
    unfold maxLen at hmax hmax'
    obtain ⟨n, hn⟩ : ∃ n, n = ts.length := ⟨_, rfl⟩
    rw [← hn] at hl hcap hpos hcap'
    rw [← hn]
    have Hn := Lib.hid hn
    have HC := Lib.hid hc
    have HC' := Lib.hid hc'
    clear hn hc hc' hv hu
    go_enter Tryd.func30, Tryd.ntmps30
    go_wp2_with fail
    go_loopw [5] (fun i wr => ∃ k : Nat, i = .int .i64 k ∧ k ≤ n ∧ Below w.heap.size w wr) (fun i _ => n - (intOf i).toNat)
    case atStart => exact ⟨0, rfl, Nat.zero_le _, Below.refl _ _⟩
    case round =>
      obtain ⟨k, rfl, hk, hB⟩ := hrel
      have hsB := hB.size
      by_cases hlt : k < n
      · obtain ⟨t, ht⟩ : ∃ t, ts[k]? = some t := ⟨_, List.getElem?_eq_getElem (by rw [← Hn.out]; exact hlt)⟩
        obtain ⟨d0, d1, d2, d3, d4, d5⟩ := (HC.out k t ht).below hB hg
        obtain ⟨x0, x1, x2, x3, x4, x5⟩ := (HC'.out k t ht).below hB hg'
        obtain ⟨kd, tx, f, fr, en, bl⟩ := t
        dsimp only at d0 d1 d2 d3 d4 d5 x0 x1 x2 x3 x4 x5
        have hq : ∀ W, (Op.equalIn 10000 39 (.agg #[.int .i64 kd, .string tx, .int .i64 f, .int .i64 fr, .int .i64 en, .bool bl]) (.agg #[.int .i64 kd, .string tx, .int .i64 f, .int .i64 fr, .int .i64 en, .bool bl])).run Tryd.prog W = .ok true W := fun W => run_sameTok _ _ _ _ _ _ W
        have z1 : (0 : Int) ≤ k := by omega
        have z2 : (k : Int) < n := by omega
        clear ht
        go_wp2_with fail
        go_quiet (fail)
        go_wp2_with fail
        go_roundw
        case rel => exact ⟨k + 1, by go_num, by omega, below_drewN hB _⟩
        case measure => simp [intOf]; omega
      · go_wp2_with fail
        go_ret
        exact ⟨rfl, hB⟩



end Go.Proofs.YtfjbmenakcnadaaDoor
