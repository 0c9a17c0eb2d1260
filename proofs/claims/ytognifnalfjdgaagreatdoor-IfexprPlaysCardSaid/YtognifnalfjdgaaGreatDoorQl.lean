/- What is proved: what stands ahead, by the document (ahead). (and what stands with it) -/
import Derived.Test.YtognifnalfjdgaaGreatDoorQk
import Derived.Laws.ResultCell
import Derived.Test.YtognifnalfjdgaaGreatDoorQh

/- What is proved: what stands ahead, by the document (ahead). -/
namespace Go.Proofs.YtognifnalfjdgaaGreatDoor
open Go.RowKit Go.Shelf

/-- What reading tells: an expression and the place behind it, or that there is none. -/
def RpPost (l : List K) (q : Option (Ie.E × List K)) (w : World) (e : Ending) (W' : World) : Prop :=
  ∃ (s : ByteArray) (n : Int) (ad : Option Addr) (m : Nat) (a : Int), e = .returned (.tuple #[.agg #[.string s, .int .i64 n, .slice ad m m], .int .i64 a]) ∧ Below w.heap.size w W' ∧
    match q with
    | none => a = -1
    | some (x, r) => ∃ j : Nat, a = j ∧ j ≤ l.length ∧ r = l.drop j ∧ Nd (fun b => w.heap.size ≤ b) W' x s n (.slice ad m m)
def RdC (d m : Nat) : Prop := ∀ (l : List K) (v : Value) (i : Nat) (g : Int) (W : World), Gv W → Ks W v l → Tb l → i ≤ 2000000 → g = 61 - (d : Int) → Calls Tryz.prog 28 #[v, .int .i64 i, .int .i64 m, .int .i64 g] W (RpPost l (Ie.rdL d m (l.drop i)) W)
noncomputable def ahBody : Code := Tryz.f57.body.getD .skip

theorem node_ret {W : World} {b : Nat} {s : ByteArray} {n : Int} {k : Value} (h : C3 W b 0 s n k) : (loadVar 57 ⟨b, 0, none⟩).run Tryz.prog W = .ok (.agg #[.string s, .int .i64 n, k]) W := by
  obtain ⟨h0, h1, h2⟩ := h
  go_simp
theorem ret_ah {W : World} {R : Nat} {s : ByteArray} {n : Int} {k : Value} {a : Int} {tmps : Array Value} (h : C3 W R 0 s n k) (h6 : tmps.getD 6 undef = .pointer (some ⟨R, 0, none⟩)) (h7 : tmps.getD 7 undef = .int .i64 a) :
    (results Tryz.f57 tmps).run Tryz.prog W = .ok (.tuple #[.agg #[.string s, .int .i64 n, k], .int .i64 a]) W := by
  rw [results_cell_tmp rfl, h6, h7]
  simp [asAddr, Result.andThen, node_ret h]
theorem c3_new (w : World) (s : ByteArray) (n : Int) (k : Value) : C3 (w.alloc (.cells #[.string s, .int .i64 n, k] 57)) w.heap.size 0 s n k := ⟨World.cell?_alloc_mark .., World.cell?_alloc_mark .., World.cell?_alloc_mark ..⟩

/-- A block of one's own that holds an expression. -/
def Nh (W : World) (R : Nat) (s : ByteArray) (n : Int) (k : Value) : Prop := W.heap[R]? = some (.cells #[.string s, .int .i64 n, k] 57 (0, 0))
theorem Nh.c3 {W : World} {R : Nat} {s : ByteArray} {n : Int} {k : Value} (h : Nh W R s n k) : C3 W R 0 s n k := by
  unfold Nh at h
  refine ⟨?_, ?_, ?_⟩ <;> (unfold World.cell?; rw [h]; rfl)
theorem Nh.below {W W' : World} {R : Nat} {s : ByteArray} {n : Int} {k : Value} (h : Nh W R s n k) (hB : Below W.heap.size W W') : Nh W' R s n k := below_heap hB h
theorem Nh.lt {W : World} {R : Nat} {s : ByteArray} {n : Int} {k : Value} (h : Nh W R s n k) : R < W.heap.size := (Array.getElem?_eq_some_iff.1 h).1
theorem Nh.fr {W : World} {R : Nat} {s : ByteArray} {n : Int} {k : Value} (h : Nh W R s n k) (i : Nat) : W.frozen? ⟨R, i, none⟩ = false := Lib.frozen_of_heap h i
theorem Nh.new (w : World) (s : ByteArray) (n : Int) (k : Value) : Nh (w.alloc (.cells #[.string s, .int .i64 n, k] 57)) w.heap.size s n k := by
  unfold Nh
  show (w.heap.push _)[w.heap.size]? = _
  simp
/-- What holds once the token that stands there is at hand. -/
structure AhW (w : World) (l : List K) (v : Value) (R T : Nat) (t : K) (W : World) : Prop where
  bl : Below w.heap.size w W
  lo : w.heap.size ≤ R
  ne : R ≠ T
  r : Nh W R ⟨#[]⟩ 0 (.slice none 0 0)
  t : KAt W T 0 t
  gv : Gv W
  ks : Ks W v l
theorem AhW.below {w : World} {l : List K} {v : Value} {R T : Nat} {t : K} {W W' : World} (h : AhW w l v R T t W) (hB : Below W.heap.size W W') : AhW w l v R T t W' :=
  ⟨Below.then h.bl hB, h.lo, h.ne, h.r.below hB, h.t.kept (by
    have := lt_of_cell h.t.1
    exact hB.block _ this), h.gv.later hB, h.ks.below hB⟩


def set3 (W : World) (R : Nat) (s : ByteArray) (n : Int) (k : Value) : World := ((W.setCell ⟨R, 0, none⟩ (.string s)).setCell ⟨R, 1, none⟩ (.int .i64 n)).setCell ⟨R, 2, none⟩ k
theorem set3_nh {W : World} {R : Nat} {s' : ByteArray} {n' : Int} {k' : Value} (h : Nh W R s' n' k') (s : ByteArray) (n : Int) (k : Value) : Nh (set3 W R s n k) R s n k := by
  unfold Nh at h ⊢
  unfold set3
  simp [World.setCell, Array.getElem?_modify, h]
theorem set3_block (W : World) (R : Nat) (s : ByteArray) (n : Int) (k : Value) (i : Nat) (hi : i ≠ R) : (set3 W R s n k).heap[i]? = W.heap[i]? := by
  unfold set3
  rw [heap_setCell_other _ ⟨R, 2, none⟩ _ _ hi, heap_setCell_other _ ⟨R, 1, none⟩ _ _ hi, heap_setCell_other _ ⟨R, 0, none⟩ _ _ hi]
theorem set3_size (W : World) (R : Nat) (s : ByteArray) (n : Int) (k : Value) : (set3 W R s n k).heap.size = W.heap.size := by
  unfold set3
  simp [World.setCell]
theorem set3_below {m : Nat} {w W : World} (h : Below m w W) (R : Nat) (s : ByteArray) (n : Int) (k : Value) (hR : m ≤ R) : Below m w (set3 W R s n k) := ((h.setCell (p := ⟨R, 0, none⟩) hR _).setCell (p := ⟨R, 1, none⟩) hR _).setCell (p := ⟨R, 2, none⟩) hR _
theorem set3_cells {W : World} {R : Nat} {s : ByteArray} {n : Int} {k : Value} {b : Nat} (hb : b ≠ R) : ∀ o v, W.cell? ⟨b, o, none⟩ = some v → (set3 W R s n k).cell? ⟨b, o, none⟩ = some v := fun o _ h => (World.cell?_of_block (a := ⟨b, o, none⟩) (set3_block W R s n k b hb)).trans h
/-- An expression elsewhere is not touched. -/
theorem Nd.set3 {ok : Nat → Prop} {W : World} {x : Ie.E} {s1 : ByteArray} {n1 : Int} {k1 : Value} (h : Nd ok W x s1 n1 k1) {R : Nat} (hR : ∀ b, ok b → b < W.heap.size → b ≠ R) (s : ByteArray) (n : Int) (k : Value) : Nd ok (Go.Proofs.YtognifnalfjdgaaGreatDoor.set3 W R s n k) x s1 n1 k1 :=
  h.keep fun b hb hl => ⟨hb, set3_cells (hR b hb hl)⟩
theorem Nd.alloc {ok : Nat → Prop} {W : World} {x : Ie.E} {s1 : ByteArray} {n1 : Int} {k1 : Value} (h : Nd ok W x s1 n1 k1) (o : Obj) : Nd ok (W.alloc o) x s1 n1 k1 := h.below ((Below.refl _ _).alloc (Nat.le_refl _) _)
theorem Nd.mono {ok ok' : Nat → Prop} {W : World} {x : Ie.E} {s1 : ByteArray} {n1 : Int} {k1 : Value} (h : Nd ok W x s1 n1 k1) (hk : ∀ b, ok b → b < W.heap.size → ok' b) : Nd ok' W x s1 n1 k1 := h.keep fun b hb hl => ⟨hk b hb hl, fun _ _ e => e⟩
theorem drop_of {l : List K} {i : Nat} {t : K} (h : l[i]? = some t) : l.drop i = t :: l.drop (i + 1) := by
  obtain ⟨h1, h2⟩ := List.getElem?_eq_some_iff.1 h
  rw [List.drop_eq_getElem_cons h1, h2]
theorem Ie.oper_un {d : Nat} {t : K} {r : List K} (hk : t.kind = 5) (hu : Ie.isUn t.text = true) : Ie.oper (d + 1) (t :: r) = match Ie.oper d r with | none => none | some (x, l') => some (.un t.text x, l') := by
  rw [Ie.oper_succ]
  unfold Ie.operS
  show (if t.kind = 2 then _ else if t.kind = 3 then _ else if t.kind = 1 then _ else if t.kind = 5 then (if Ie.isUn t.text then _ else _) else _) = _
  rw [if_neg (by omega), if_neg (by omega), if_neg (by omega), if_pos hk, if_pos hu]
  cases Ie.oper d r <;> rfl
theorem Ie.oper_lp {d : Nat} {t : K} {r : List K} (hk : t.kind = 5) (hu : t.text = Ie.sLp) : Ie.oper (d + 1) (t :: r) = Ie.shut Ie.sRp (Ie.expr d r) := by
  rw [Ie.oper_succ]
  unfold Ie.operS
  show (if t.kind = 2 then _ else if t.kind = 3 then _ else if t.kind = 1 then _ else if t.kind = 5 then (if Ie.isUn t.text then _ else if t.text = Ie.sLp then _ else _) else _) = _
  rw [if_neg (by omega), if_neg (by omega), if_neg (by omega), if_pos hk, if_neg (by rw [hu]; decide), if_pos hu]
theorem Ie.oper_no {d : Nat} {t : K} {r : List K} (hk : t.kind = 5) (hu : ¬ Ie.isUn t.text = true) (hp : t.text ≠ Ie.sLp) : Ie.oper (d + 1) (t :: r) = none := by
  rw [Ie.oper_succ]
  unfold Ie.operS
  show (if t.kind = 2 then _ else if t.kind = 3 then _ else if t.kind = 1 then _ else if t.kind = 5 then (if Ie.isUn t.text then _ else if t.text = Ie.sLp then _ else _) else _) = _
  rw [if_neg (by omega), if_neg (by omega), if_neg (by omega), if_pos hk, if_neg hu, if_neg hp]
theorem Ie.oper_other {d : Nat} {t : K} {r : List K} (h1 : t.kind ≠ 1) (h2 : t.kind ≠ 2) (h3 : t.kind ≠ 3) (hk : t.kind ≠ 5) : Ie.oper (d + 1) (t :: r) = none := by
  rw [Ie.oper_succ]
  unfold Ie.operS
  show (if t.kind = 2 then _ else if t.kind = 3 then _ else if t.kind = 1 then _ else if t.kind = 5 then _ else _) = _
  rw [if_neg h2, if_neg h3, if_neg h1, if_neg hk]
theorem Ie.oper_num {d : Nat} {t : K} {r : List K} (h2 : t.kind = 2) : Ie.oper (d + 1) (t :: r) = some (Ie.ofNum (Ie.number t.text.data.toList), r) := by
  rw [Ie.oper_succ]
  unfold Ie.operS
  show (if t.kind = 2 then _ else _) = _
  rw [if_pos h2]
theorem Ie.oper_quo {d : Nat} {t : K} {r : List K} (h3 : t.kind = 3) : Ie.oper (d + 1) (t :: r) = some (Ie.ofNum (Ie.quote t.text.data.toList), r) := by
  rw [Ie.oper_succ]
  unfold Ie.operS
  show (if t.kind = 2 then _ else if t.kind = 3 then _ else _) = _
  rw [if_neg (by omega), if_pos h3]
theorem Ie.oper_name {d : Nat} {t : K} {r : List K} (h1 : t.kind = 1) : Ie.oper (d + 1) (t :: r) = some (.num 0, r) := by
  rw [Ie.oper_succ]
  unfold Ie.operS
  show (if t.kind = 2 then _ else if t.kind = 3 then _ else if t.kind = 1 then _ else _) = _
  rw [if_neg (by omega), if_neg (by omega), if_pos h1]
/-- A sign ahead of what was read. -/
theorem un_end {w W w2 : World} {l : List K} {i d : Nat} {t : K} {R : Nat} {s1 : ByteArray} {n1 : Int} {ad1 : Option Addr} {m1 : Nat} {a : Int} {s' : ByteArray} {n' : Int} {k' : Value} {tx : ByteArray} (htx : t.text = tx)
    (hB : Below w.heap.size w W) (hB2 : Below W.heap.size W w2) (hlo : w.heap.size ≤ R) (hRW : R < W.heap.size) (_ : Nh w2 R s' n' k') (ht : l[i]? = some t) (hk : t.kind = 5) (hu : Ie.isUn t.text = true)
    (hq : match Ie.oper d (l.drop (i + 1)) with | none => a = -1 | some (x, r) => ∃ j : Nat, a = j ∧ j ≤ l.length ∧ r = l.drop j ∧ Nd (fun b => W.heap.size ≤ b) w2 x s1 n1 (.slice ad1 m1 m1)) :
    RpPost l (Ie.oper (d + 1) (l.drop i)) w (.returned (.tuple #[.agg #[.string tx, .int .i64 0, .slice (some ⟨w2.heap.size + 1, 0, none⟩) 1 1], .int .i64 a])) (((set3 w2 R tx 0 (.slice (some ⟨w2.heap.size + 1, 0, none⟩) 1 1)).alloc (.cells #[.string s1, .int .i64 n1, .slice ad1 m1 m1] 57)).alloc (.cells #[.string s1, .int .i64 n1, .slice ad1 m1 m1] 57)) := by
  refine ⟨tx, 0, _, 1, a, rfl, ?_, ?_⟩
  · have h1 := set3_below (Below.then hB hB2) R tx 0 (.slice (some ⟨w2.heap.size + 1, 0, none⟩) 1 1) hlo
    have hs := h1.size
    exact (h1.alloc hs _).alloc (by show w.heap.size ≤ (Array.push _ _).size; rw [Array.size_push]; omega) _
  · rw [drop_of ht, Ie.oper_un hk hu]
    cases hq' : Ie.oper d (l.drop (i + 1)) with
    | none => rw [hq'] at hq; exact hq
    | some q =>
      obtain ⟨x, r⟩ := q
      rw [hq'] at hq
      obtain ⟨j, ha, hj, hr', hN⟩ := hq
      refine ⟨j, ha, hj, hr', ?_⟩
      have hsz := (Below.then hB hB2).size
      have hsz2 := hB2.size
      rw [htx] at hu ⊢
      refine ⟨rfl, rfl, hu, w2.heap.size + 1, s1, n1, .slice ad1 m1 m1, rfl, (by omega : w.heap.size ≤ w2.heap.size + 1), ?_, ?_⟩
      · have e : ((set3 w2 R tx 0 (.slice (some ⟨w2.heap.size + 1, 0, none⟩) 1 1)).alloc (.cells #[.string s1, .int .i64 n1, .slice ad1 m1 m1] 57)).heap.size = w2.heap.size + 1 := by
          show (Array.push _ _).size = _
          rw [Array.size_push, set3_size]
        have := c3_new ((set3 w2 R tx 0 (.slice (some ⟨w2.heap.size + 1, 0, none⟩) 1 1)).alloc (.cells #[.string s1, .int .i64 n1, .slice ad1 m1 m1] 57)) s1 n1 (.slice ad1 m1 m1)
        rw [e] at this
        exact this
      · refine Nd.alloc (Nd.alloc ?_ _) _
        have h2 := hN.set3 (R := R) (fun b hb _ => by have : W.heap.size ≤ b := hb; omega) tx 0 (.slice (some ⟨w2.heap.size + 1, 0, none⟩) 1 1)
        exact h2.mono fun b hb _ => by have : W.heap.size ≤ b := hb; have := hB.size; omega

set_option maxRecDepth 100000 in
set_option maxHeartbeats 8000000 in
theorem ah_una (w W : World) (l : List K) (hT : Tb l) (v : Value) (R T i d : Nat) (g : Int) (t : K) (h : AhW w l v R T t W) (hi : i ≤ 1000000) (hg : g = 61 - ((d + 1 : Nat) : Int)) (hd : d ≤ 60) (ih : RdC d 11) (hk : t.kind = 5) (hu : t.text = Ie.sAdd)
    (ht : l[i]? = some t) (c3 c4 c5 c7 c9 c10 c11 c12 c13 c14 c15 c16 c17 c18 c19 c20 c21 c22 c23 c24 c25 c26 c27 c28 c29 c30 c31 c32 c33 c34 c35 c36 c37 c38 c39 c40 c41 c42 c43 c44 c45 c46 c47 c48 c49 c50 c51 c52 c53 c54 c55 c56 c57 c58 c59 c60 c61 c62 c63 c64 c65 c66 c67 c68 c69 c70 c71 c72 c73 c74 c75 c76 c77 c78 c79 c80 c81 c82 c83 c84 c85 c86 c87 c88 c89 c90 c91 c92 c93 c94 c95 c96 c97 c98 c99 c100 c101 c102 c103 c104 c105 c106 c107 c108 c109 c110 c111 c112 c113 c114 c115 : Value) :
    Code.wp Tryz.prog (secs 2 ahBody) (bodyPost Tryz.prog Tryz.f57 (RpPost l (Ie.oper (d + 1) (l.drop i)) w)) ⟨#[v, .int .i64 i, .int .i64 g, c3, c4, c5, .pointer (some ⟨R, 0, none⟩), c7, .pointer (some ⟨T, 0, none⟩), c9, c10, c11, c12, c13, c14, c15, c16, c17, c18, c19, c20, c21, c22, c23, c24, c25, c26, c27, c28, c29, c30, c31, c32, c33, c34, c35, c36, c37, c38, c39, c40, c41, c42, c43, c44, c45, c46, c47, c48, c49, c50, c51, c52, c53, c54, c55, c56, c57, c58, c59, c60, c61, c62, c63, c64, c65, c66, c67, c68, c69, c70, c71, c72, c73, c74, c75, c76, c77, c78, c79, c80, c81, c82, c83, c84, c85, c86, c87, c88, c89, c90, c91, c92, c93, c94, c95, c96, c97, c98, c99, c100, c101, c102, c103, c104, c105, c106, c107, c108, c109, c110, c111, c112, c113, c114, c115], []⟩ W := by
  have HT := Lib.hid ht
  have HK := Lib.hid hk
  have HU := Lib.hid hu
  have HL : Hid (l[i]? = some t) := Lib.hid ht
  have HR0 := ih l v (i + 1) (g + 1) W h.gv h.ks hT (by omega) (by omega)
  have hg0 : 0 ≤ g := by omega
  have hg1 : g ≤ 61 := by omega
  obtain ⟨ad, cap, rfl, -⟩ := id h.ks
  have HR : Hid (Calls Tryz.prog 28 #[.slice ad l.length cap, .int .i64 ((i : Int) + 1), .int .i64 11, .int .i64 (g + 1)] W (RpPost l (Ie.oper d (l.drop (i + 1))) W)) := Lib.hid HR0
  clear HR0
  obtain ⟨P, hP⟩ : ∃ P, P = RpPost l (Ie.oper (d + 1) (l.drop i)) w := ⟨_, rfl⟩
  rw [← hP]
  have HP := Lib.hid hP
  have HW := Lib.hid h
  obtain ⟨n, hn⟩ : ∃ n, n = l.length := ⟨_, rfl⟩
  rw [← hn] at HR HW ⊢
  obtain ⟨d0, d1, d2, d3, d4, d5⟩ := h.t
  obtain ⟨r0, r1, r2⟩ := h.r.c3
  rw [hu] at d1
  rw [hk] at d0
  unfold Ie.sAdd at d1
  clear h ih hT hn ht hg hP hu hk
  refine wp_sec 2 ahBody rfl ?_
  conv => arg 2; whnf
  go_wp2_with fail
  refine HR.out.mono ?_
  rintro e w2 ⟨s1, n1, ad1, m1, a, rfl, hB2, hqq⟩
  have HW2 := Lib.hid (HW.out.below hB2)
  have HB2 := Lib.hid hB2
  have HQQ := Lib.hid hqq
  clear hB2 hqq d0 d1 d2 d3 d4 d5 r0 r1 r2
  obtain ⟨d0, d1, d2, d3, d4, d5⟩ := HW2.out.t
  obtain ⟨r0, r1, r2⟩ := HW2.out.r.c3
  have f0 := HW2.out.r.fr 0
  have f1 := HW2.out.r.fr 1
  have f2 := HW2.out.r.fr 2
  rw [HU.out] at d1
  unfold Ie.sAdd at d1
  have lT := lt_of_cell d0
  have lR := lt_of_cell r0
  go_wp2_with fail
  have hw' := un_end (w := w) (W := W) (w2 := w2) (l := l) (i := i) (d := d) (t := t) (R := R) (s1 := s1) (n1 := n1) (ad1 := ad1) (m1 := m1) (a := a) HU.out HW.out.bl HB2.out HW.out.lo HW.out.r.lt HW2.out.r HL.out HK.out (by rw [HU.out]; decide) HQQ.out
  rw [← HP.out] at hw'
  have hnh : Nh (((set3 w2 R Ie.sAdd 0 (.slice (some ⟨w2.heap.size + 1, 0, none⟩) 1 1)).alloc (.cells #[.string s1, .int .i64 n1, .slice ad1 m1 m1] 57)).alloc (.cells #[.string s1, .int .i64 n1, .slice ad1 m1 m1] 57)) R Ie.sAdd 0 (.slice (some ⟨w2.heap.size + 1, 0, none⟩) 1 1) := by
    have h1 := set3_nh HW2.out.r Ie.sAdd 0 (.slice (some ⟨w2.heap.size + 1, 0, none⟩) 1 1)
    exact (h1.below ((Below.refl _ _).alloc (Nat.le_refl _) _)).below ((Below.refl _ _).alloc (Nat.le_refl _) _)
  exact bodyPost_ret (ret_ah hnh.c3 rfl rfl) rfl hw'

set_option maxRecDepth 100000 in
set_option maxHeartbeats 8000000 in
theorem ah_uns (w W : World) (l : List K) (hT : Tb l) (v : Value) (R T i d : Nat) (g : Int) (t : K) (h : AhW w l v R T t W) (hi : i ≤ 1000000) (hg : g = 61 - ((d + 1 : Nat) : Int)) (hd : d ≤ 60) (ih : RdC d 11) (hk : t.kind = 5) (hu : t.text = Ie.sSub)
    (ht : l[i]? = some t) (c3 c4 c5 c7 c9 c10 c11 c12 c13 c14 c15 c16 c17 c18 c19 c20 c21 c22 c23 c24 c25 c26 c27 c28 c29 c30 c31 c32 c33 c34 c35 c36 c37 c38 c39 c40 c41 c42 c43 c44 c45 c46 c47 c48 c49 c50 c51 c52 c53 c54 c55 c56 c57 c58 c59 c60 c61 c62 c63 c64 c65 c66 c67 c68 c69 c70 c71 c72 c73 c74 c75 c76 c77 c78 c79 c80 c81 c82 c83 c84 c85 c86 c87 c88 c89 c90 c91 c92 c93 c94 c95 c96 c97 c98 c99 c100 c101 c102 c103 c104 c105 c106 c107 c108 c109 c110 c111 c112 c113 c114 c115 : Value) :
    Code.wp Tryz.prog (secs 2 ahBody) (bodyPost Tryz.prog Tryz.f57 (RpPost l (Ie.oper (d + 1) (l.drop i)) w)) ⟨#[v, .int .i64 i, .int .i64 g, c3, c4, c5, .pointer (some ⟨R, 0, none⟩), c7, .pointer (some ⟨T, 0, none⟩), c9, c10, c11, c12, c13, c14, c15, c16, c17, c18, c19, c20, c21, c22, c23, c24, c25, c26, c27, c28, c29, c30, c31, c32, c33, c34, c35, c36, c37, c38, c39, c40, c41, c42, c43, c44, c45, c46, c47, c48, c49, c50, c51, c52, c53, c54, c55, c56, c57, c58, c59, c60, c61, c62, c63, c64, c65, c66, c67, c68, c69, c70, c71, c72, c73, c74, c75, c76, c77, c78, c79, c80, c81, c82, c83, c84, c85, c86, c87, c88, c89, c90, c91, c92, c93, c94, c95, c96, c97, c98, c99, c100, c101, c102, c103, c104, c105, c106, c107, c108, c109, c110, c111, c112, c113, c114, c115], []⟩ W := by
  have HT := Lib.hid ht
  have HK := Lib.hid hk
  have HU := Lib.hid hu
  have HL : Hid (l[i]? = some t) := Lib.hid ht
  have HR0 := ih l v (i + 1) (g + 1) W h.gv h.ks hT (by omega) (by omega)
  have hg0 : 0 ≤ g := by omega
  have hg1 : g ≤ 61 := by omega
  obtain ⟨ad, cap, rfl, -⟩ := id h.ks
  have HR : Hid (Calls Tryz.prog 28 #[.slice ad l.length cap, .int .i64 ((i : Int) + 1), .int .i64 11, .int .i64 (g + 1)] W (RpPost l (Ie.oper d (l.drop (i + 1))) W)) := Lib.hid HR0
  clear HR0
  obtain ⟨P, hP⟩ : ∃ P, P = RpPost l (Ie.oper (d + 1) (l.drop i)) w := ⟨_, rfl⟩
  rw [← hP]
  have HP := Lib.hid hP
  have HW := Lib.hid h
  obtain ⟨n, hn⟩ : ∃ n, n = l.length := ⟨_, rfl⟩
  rw [← hn] at HR HW ⊢
  obtain ⟨d0, d1, d2, d3, d4, d5⟩ := h.t
  obtain ⟨r0, r1, r2⟩ := h.r.c3
  rw [hu] at d1
  rw [hk] at d0
  unfold Ie.sSub at d1
  clear h ih hT hn ht hg hP hu hk
  refine wp_sec 2 ahBody rfl ?_
  conv => arg 2; whnf
  go_wp2_with fail
  refine HR.out.mono ?_
  rintro e w2 ⟨s1, n1, ad1, m1, a, rfl, hB2, hqq⟩
  have HW2 := Lib.hid (HW.out.below hB2)
  have HB2 := Lib.hid hB2
  have HQQ := Lib.hid hqq
  clear hB2 hqq d0 d1 d2 d3 d4 d5 r0 r1 r2
  obtain ⟨d0, d1, d2, d3, d4, d5⟩ := HW2.out.t
  obtain ⟨r0, r1, r2⟩ := HW2.out.r.c3
  have f0 := HW2.out.r.fr 0
  have f1 := HW2.out.r.fr 1
  have f2 := HW2.out.r.fr 2
  rw [HU.out] at d1
  unfold Ie.sSub at d1
  have lT := lt_of_cell d0
  have lR := lt_of_cell r0
  go_wp2_with fail
  have hw' := un_end (w := w) (W := W) (w2 := w2) (l := l) (i := i) (d := d) (t := t) (R := R) (s1 := s1) (n1 := n1) (ad1 := ad1) (m1 := m1) (a := a) HU.out HW.out.bl HB2.out HW.out.lo HW.out.r.lt HW2.out.r HL.out HK.out (by rw [HU.out]; decide) HQQ.out
  rw [← HP.out] at hw'
  have hnh : Nh (((set3 w2 R Ie.sSub 0 (.slice (some ⟨w2.heap.size + 1, 0, none⟩) 1 1)).alloc (.cells #[.string s1, .int .i64 n1, .slice ad1 m1 m1] 57)).alloc (.cells #[.string s1, .int .i64 n1, .slice ad1 m1 m1] 57)) R Ie.sSub 0 (.slice (some ⟨w2.heap.size + 1, 0, none⟩) 1 1) := by
    have h1 := set3_nh HW2.out.r Ie.sSub 0 (.slice (some ⟨w2.heap.size + 1, 0, none⟩) 1 1)
    exact (h1.below ((Below.refl _ _).alloc (Nat.le_refl _) _)).below ((Below.refl _ _).alloc (Nat.le_refl _) _)
  exact bodyPost_ret (ret_ah hnh.c3 rfl rfl) rfl hw'

set_option maxRecDepth 100000 in
set_option maxHeartbeats 8000000 in
theorem ah_unn (w W : World) (l : List K) (hT : Tb l) (v : Value) (R T i d : Nat) (g : Int) (t : K) (h : AhW w l v R T t W) (hi : i ≤ 1000000) (hg : g = 61 - ((d + 1 : Nat) : Int)) (hd : d ≤ 60) (ih : RdC d 11) (hk : t.kind = 5) (hu : t.text = Ie.sNot)
    (ht : l[i]? = some t) (c3 c4 c5 c7 c9 c10 c11 c12 c13 c14 c15 c16 c17 c18 c19 c20 c21 c22 c23 c24 c25 c26 c27 c28 c29 c30 c31 c32 c33 c34 c35 c36 c37 c38 c39 c40 c41 c42 c43 c44 c45 c46 c47 c48 c49 c50 c51 c52 c53 c54 c55 c56 c57 c58 c59 c60 c61 c62 c63 c64 c65 c66 c67 c68 c69 c70 c71 c72 c73 c74 c75 c76 c77 c78 c79 c80 c81 c82 c83 c84 c85 c86 c87 c88 c89 c90 c91 c92 c93 c94 c95 c96 c97 c98 c99 c100 c101 c102 c103 c104 c105 c106 c107 c108 c109 c110 c111 c112 c113 c114 c115 : Value) :
    Code.wp Tryz.prog (secs 2 ahBody) (bodyPost Tryz.prog Tryz.f57 (RpPost l (Ie.oper (d + 1) (l.drop i)) w)) ⟨#[v, .int .i64 i, .int .i64 g, c3, c4, c5, .pointer (some ⟨R, 0, none⟩), c7, .pointer (some ⟨T, 0, none⟩), c9, c10, c11, c12, c13, c14, c15, c16, c17, c18, c19, c20, c21, c22, c23, c24, c25, c26, c27, c28, c29, c30, c31, c32, c33, c34, c35, c36, c37, c38, c39, c40, c41, c42, c43, c44, c45, c46, c47, c48, c49, c50, c51, c52, c53, c54, c55, c56, c57, c58, c59, c60, c61, c62, c63, c64, c65, c66, c67, c68, c69, c70, c71, c72, c73, c74, c75, c76, c77, c78, c79, c80, c81, c82, c83, c84, c85, c86, c87, c88, c89, c90, c91, c92, c93, c94, c95, c96, c97, c98, c99, c100, c101, c102, c103, c104, c105, c106, c107, c108, c109, c110, c111, c112, c113, c114, c115], []⟩ W := by
  have HT := Lib.hid ht
  have HK := Lib.hid hk
  have HU := Lib.hid hu
  have HL : Hid (l[i]? = some t) := Lib.hid ht
  have HR0 := ih l v (i + 1) (g + 1) W h.gv h.ks hT (by omega) (by omega)
  have hg0 : 0 ≤ g := by omega
  have hg1 : g ≤ 61 := by omega
  obtain ⟨ad, cap, rfl, -⟩ := id h.ks
  have HR : Hid (Calls Tryz.prog 28 #[.slice ad l.length cap, .int .i64 ((i : Int) + 1), .int .i64 11, .int .i64 (g + 1)] W (RpPost l (Ie.oper d (l.drop (i + 1))) W)) := Lib.hid HR0
  clear HR0
  obtain ⟨P, hP⟩ : ∃ P, P = RpPost l (Ie.oper (d + 1) (l.drop i)) w := ⟨_, rfl⟩
  rw [← hP]
  have HP := Lib.hid hP
  have HW := Lib.hid h
  obtain ⟨n, hn⟩ : ∃ n, n = l.length := ⟨_, rfl⟩
  rw [← hn] at HR HW ⊢
  obtain ⟨d0, d1, d2, d3, d4, d5⟩ := h.t
  obtain ⟨r0, r1, r2⟩ := h.r.c3
  rw [hu] at d1
  rw [hk] at d0
  unfold Ie.sNot at d1
  clear h ih hT hn ht hg hP hu hk
  refine wp_sec 2 ahBody rfl ?_
  conv => arg 2; whnf
  go_wp2_with fail
  refine HR.out.mono ?_
  rintro e w2 ⟨s1, n1, ad1, m1, a, rfl, hB2, hqq⟩
  have HW2 := Lib.hid (HW.out.below hB2)
  have HB2 := Lib.hid hB2
  have HQQ := Lib.hid hqq
  clear hB2 hqq d0 d1 d2 d3 d4 d5 r0 r1 r2
  obtain ⟨d0, d1, d2, d3, d4, d5⟩ := HW2.out.t
  obtain ⟨r0, r1, r2⟩ := HW2.out.r.c3
  have f0 := HW2.out.r.fr 0
  have f1 := HW2.out.r.fr 1
  have f2 := HW2.out.r.fr 2
  rw [HU.out] at d1
  unfold Ie.sNot at d1
  have lT := lt_of_cell d0
  have lR := lt_of_cell r0
  go_wp2_with fail
  have hw' := un_end (w := w) (W := W) (w2 := w2) (l := l) (i := i) (d := d) (t := t) (R := R) (s1 := s1) (n1 := n1) (ad1 := ad1) (m1 := m1) (a := a) HU.out HW.out.bl HB2.out HW.out.lo HW.out.r.lt HW2.out.r HL.out HK.out (by rw [HU.out]; decide) HQQ.out
  rw [← HP.out] at hw'
  have hnh : Nh (((set3 w2 R Ie.sNot 0 (.slice (some ⟨w2.heap.size + 1, 0, none⟩) 1 1)).alloc (.cells #[.string s1, .int .i64 n1, .slice ad1 m1 m1] 57)).alloc (.cells #[.string s1, .int .i64 n1, .slice ad1 m1 m1] 57)) R Ie.sNot 0 (.slice (some ⟨w2.heap.size + 1, 0, none⟩) 1 1) := by
    have h1 := set3_nh HW2.out.r Ie.sNot 0 (.slice (some ⟨w2.heap.size + 1, 0, none⟩) 1 1)
    exact (h1.below ((Below.refl _ _).alloc (Nat.le_refl _) _)).below ((Below.refl _ _).alloc (Nat.le_refl _) _)
  exact bodyPost_ret (ret_ah hnh.c3 rfl rfl) rfl hw'

set_option maxRecDepth 100000 in
set_option maxHeartbeats 8000000 in
theorem ah_unt (w W : World) (l : List K) (hT : Tb l) (v : Value) (R T i d : Nat) (g : Int) (t : K) (h : AhW w l v R T t W) (hi : i ≤ 1000000) (hg : g = 61 - ((d + 1 : Nat) : Int)) (hd : d ≤ 60) (ih : RdC d 11) (hk : t.kind = 5) (hu : t.text = Ie.sTil)
    (ht : l[i]? = some t) (c3 c4 c5 c7 c9 c10 c11 c12 c13 c14 c15 c16 c17 c18 c19 c20 c21 c22 c23 c24 c25 c26 c27 c28 c29 c30 c31 c32 c33 c34 c35 c36 c37 c38 c39 c40 c41 c42 c43 c44 c45 c46 c47 c48 c49 c50 c51 c52 c53 c54 c55 c56 c57 c58 c59 c60 c61 c62 c63 c64 c65 c66 c67 c68 c69 c70 c71 c72 c73 c74 c75 c76 c77 c78 c79 c80 c81 c82 c83 c84 c85 c86 c87 c88 c89 c90 c91 c92 c93 c94 c95 c96 c97 c98 c99 c100 c101 c102 c103 c104 c105 c106 c107 c108 c109 c110 c111 c112 c113 c114 c115 : Value) :
    Code.wp Tryz.prog (secs 2 ahBody) (bodyPost Tryz.prog Tryz.f57 (RpPost l (Ie.oper (d + 1) (l.drop i)) w)) ⟨#[v, .int .i64 i, .int .i64 g, c3, c4, c5, .pointer (some ⟨R, 0, none⟩), c7, .pointer (some ⟨T, 0, none⟩), c9, c10, c11, c12, c13, c14, c15, c16, c17, c18, c19, c20, c21, c22, c23, c24, c25, c26, c27, c28, c29, c30, c31, c32, c33, c34, c35, c36, c37, c38, c39, c40, c41, c42, c43, c44, c45, c46, c47, c48, c49, c50, c51, c52, c53, c54, c55, c56, c57, c58, c59, c60, c61, c62, c63, c64, c65, c66, c67, c68, c69, c70, c71, c72, c73, c74, c75, c76, c77, c78, c79, c80, c81, c82, c83, c84, c85, c86, c87, c88, c89, c90, c91, c92, c93, c94, c95, c96, c97, c98, c99, c100, c101, c102, c103, c104, c105, c106, c107, c108, c109, c110, c111, c112, c113, c114, c115], []⟩ W := by
  have HT := Lib.hid ht
  have HK := Lib.hid hk
  have HU := Lib.hid hu
  have HL : Hid (l[i]? = some t) := Lib.hid ht
  have HR0 := ih l v (i + 1) (g + 1) W h.gv h.ks hT (by omega) (by omega)
  have hg0 : 0 ≤ g := by omega
  have hg1 : g ≤ 61 := by omega
  obtain ⟨ad, cap, rfl, -⟩ := id h.ks
  have HR : Hid (Calls Tryz.prog 28 #[.slice ad l.length cap, .int .i64 ((i : Int) + 1), .int .i64 11, .int .i64 (g + 1)] W (RpPost l (Ie.oper d (l.drop (i + 1))) W)) := Lib.hid HR0
  clear HR0
  obtain ⟨P, hP⟩ : ∃ P, P = RpPost l (Ie.oper (d + 1) (l.drop i)) w := ⟨_, rfl⟩
  rw [← hP]
  have HP := Lib.hid hP
  have HW := Lib.hid h
  obtain ⟨n, hn⟩ : ∃ n, n = l.length := ⟨_, rfl⟩
  rw [← hn] at HR HW ⊢
  obtain ⟨d0, d1, d2, d3, d4, d5⟩ := h.t
  obtain ⟨r0, r1, r2⟩ := h.r.c3
  rw [hu] at d1
  rw [hk] at d0
  unfold Ie.sTil at d1
  clear h ih hT hn ht hg hP hu hk
  refine wp_sec 2 ahBody rfl ?_
  conv => arg 2; whnf
  go_wp2_with fail
  refine HR.out.mono ?_
  rintro e w2 ⟨s1, n1, ad1, m1, a, rfl, hB2, hqq⟩
  have HW2 := Lib.hid (HW.out.below hB2)
  have HB2 := Lib.hid hB2
  have HQQ := Lib.hid hqq
  clear hB2 hqq d0 d1 d2 d3 d4 d5 r0 r1 r2
  obtain ⟨d0, d1, d2, d3, d4, d5⟩ := HW2.out.t
  obtain ⟨r0, r1, r2⟩ := HW2.out.r.c3
  have f0 := HW2.out.r.fr 0
  have f1 := HW2.out.r.fr 1
  have f2 := HW2.out.r.fr 2
  rw [HU.out] at d1
  unfold Ie.sTil at d1
  have lT := lt_of_cell d0
  have lR := lt_of_cell r0
  go_wp2_with fail
  have hw' := un_end (w := w) (W := W) (w2 := w2) (l := l) (i := i) (d := d) (t := t) (R := R) (s1 := s1) (n1 := n1) (ad1 := ad1) (m1 := m1) (a := a) HU.out HW.out.bl HB2.out HW.out.lo HW.out.r.lt HW2.out.r HL.out HK.out (by rw [HU.out]; decide) HQQ.out
  rw [← HP.out] at hw'
  have hnh : Nh (((set3 w2 R Ie.sTil 0 (.slice (some ⟨w2.heap.size + 1, 0, none⟩) 1 1)).alloc (.cells #[.string s1, .int .i64 n1, .slice ad1 m1 m1] 57)).alloc (.cells #[.string s1, .int .i64 n1, .slice ad1 m1 m1] 57)) R Ie.sTil 0 (.slice (some ⟨w2.heap.size + 1, 0, none⟩) 1 1) := by
    have h1 := set3_nh HW2.out.r Ie.sTil 0 (.slice (some ⟨w2.heap.size + 1, 0, none⟩) 1 1)
    exact (h1.below ((Below.refl _ _).alloc (Nat.le_refl _) _)).below ((Below.refl _ _).alloc (Nat.le_refl _) _)
  exact bodyPost_ret (ret_ah hnh.c3 rfl rfl) rfl hw'
end Go.Proofs.YtognifnalfjdgaaGreatDoor

/- What is proved: what Quote and the document's own Quote tell. -/
namespace Go.Proofs.YtognifnalfjdgaaGreatDoor
open Go.RowKit Go.Shelf

theorem byte9 {s : ByteArray} {i : Nat} {c : UInt8} (h : s.data.toList[i]? = some c) (hi : i < s.size) : ((s[i]'hi).toNat : Int) = c.toNat := by
  obtain ⟨h1, h2⟩ := List.getElem?_eq_some_iff.1 h
  have : s[i]'hi = c := by rw [← h2]; rfl
  rw [this]
theorem part_at {s : ByteArray} {a b i : Nat} {c : UInt8} (h : s.data.toList[a + i]? = some c) (hi : i < (s.extract a b).size) : (((s.extract a b)[i]'hi).toNat : Int) = c.toNat := by
  refine byte9 ?_ hi
  have hs : (s.extract a b).size = min b s.size - a := ByteArray.size_extract
  rw [hs] at hi
  rw [Lib.extract_data, List.getElem?_take, List.getElem?_drop, if_pos (by omega)]
  exact h
theorem u8_of {c : UInt8} {k : Nat} (h : (c.toNat : Int) = k) (hk : k < 256) : c = UInt8.ofNat k := by
  apply UInt8.toNat_inj.1
  rw [UInt8.toNat_ofNat']
  have : k % 2 ^ 8 = k := Nat.mod_eq_of_lt hk
  omega
theorem Ie.quote_none {l : List UInt8} (h3 : l.length ≠ 3) (h4 : l.length ≠ 4) : Ie.quote l = none := by
  match l, h3, h4 with
  | [], _, _ => rfl
  | [_], _, _ => rfl
  | [_, _], _, _ => rfl
  | [_, _, _], h, _ => exact absurd rfl h
  | [_, _, _, _], _, h => exact absurd rfl h
  | _ :: _ :: _ :: _ :: _ :: _, _, _ => rfl
theorem Ie.esc_none {c : UInt8} (h0 : ¬ (c.toNat : Int) = 110) (h1 : ¬ (c.toNat : Int) = 116) (h2 : ¬ (c.toNat : Int) = 114) (h3 : ¬ (c.toNat : Int) = 48) (h4 : ¬ (c.toNat : Int) = 97) (h5 : ¬ (c.toNat : Int) = 98) (h6 : ¬ (c.toNat : Int) = 102) (h7 : ¬ (c.toNat : Int) = 118) (h8 : ¬ (c.toNat : Int) = 92) (h9 : ¬ (c.toNat : Int) = 39) (h10 : ¬ (c.toNat : Int) = 34) (h11 : ¬ (c.toNat : Int) = 63) : Ie.esc c = none := by
  unfold Ie.esc
  rw [if_neg (fun h => h0 (by rw [h]; rfl)), if_neg (fun h => h1 (by rw [h]; rfl)), if_neg (fun h => h2 (by rw [h]; rfl)), if_neg (fun h => h3 (by rw [h]; rfl)), if_neg (fun h => h4 (by rw [h]; rfl)), if_neg (fun h => h5 (by rw [h]; rfl)), if_neg (fun h => h6 (by rw [h]; rfl)), if_neg (fun h => h7 (by rw [h]; rfl)), if_neg (fun h => h8 (by rw [h]; rfl)), if_neg (fun h => h9 (by rw [h]; rfl)), if_neg (fun h => h10 (by rw [h]; rfl)), if_neg (fun h => h11 (by rw [h]; rfl))]

set_option maxRecDepth 100000 in
set_option maxHeartbeats 2000000 in
theorem escaped_any (c : UInt8) (w : World) : Calls Tryz.prog 40 #[.int .u8 c.toNat] w fun e w' => e = .returned (.tuple #[.int .i64 (Ie.nv (Ie.esc c)), .int .i64 (Ie.ne (Ie.esc c))]) ∧ w' = w := by
  by_cases h0 : (c.toNat : Int) = 110
  · have he : Ie.esc c = some 10 := by rw [u8_of (k := 110) h0 (by decide)]; rfl
    rw [he, h0]
    clear he
    go_enter Tryz.func40, Tryz.ntmps40
    go_wp2_with fail
    go_ret2
    exact ⟨rfl, rfl⟩
  by_cases h1 : (c.toNat : Int) = 116
  · have he : Ie.esc c = some 9 := by rw [u8_of (k := 116) h1 (by decide)]; rfl
    rw [he, h1]
    clear he
    go_enter Tryz.func40, Tryz.ntmps40
    go_wp2_with fail
    go_ret2
    exact ⟨rfl, rfl⟩
  by_cases h2 : (c.toNat : Int) = 114
  · have he : Ie.esc c = some 13 := by rw [u8_of (k := 114) h2 (by decide)]; rfl
    rw [he, h2]
    clear he
    go_enter Tryz.func40, Tryz.ntmps40
    go_wp2_with fail
    go_ret2
    exact ⟨rfl, rfl⟩
  by_cases h3 : (c.toNat : Int) = 48
  · have he : Ie.esc c = some 0 := by rw [u8_of (k := 48) h3 (by decide)]; rfl
    rw [he, h3]
    clear he
    go_enter Tryz.func40, Tryz.ntmps40
    go_wp2_with fail
    go_ret2
    exact ⟨rfl, rfl⟩
  by_cases h4 : (c.toNat : Int) = 97
  · have he : Ie.esc c = some 7 := by rw [u8_of (k := 97) h4 (by decide)]; rfl
    rw [he, h4]
    clear he
    go_enter Tryz.func40, Tryz.ntmps40
    go_wp2_with fail
    go_ret2
    exact ⟨rfl, rfl⟩
  by_cases h5 : (c.toNat : Int) = 98
  · have he : Ie.esc c = some 8 := by rw [u8_of (k := 98) h5 (by decide)]; rfl
    rw [he, h5]
    clear he
    go_enter Tryz.func40, Tryz.ntmps40
    go_wp2_with fail
    go_ret2
    exact ⟨rfl, rfl⟩
  by_cases h6 : (c.toNat : Int) = 102
  · have he : Ie.esc c = some 12 := by rw [u8_of (k := 102) h6 (by decide)]; rfl
    rw [he, h6]
    clear he
    go_enter Tryz.func40, Tryz.ntmps40
    go_wp2_with fail
    go_ret2
    exact ⟨rfl, rfl⟩
  by_cases h7 : (c.toNat : Int) = 118
  · have he : Ie.esc c = some 11 := by rw [u8_of (k := 118) h7 (by decide)]; rfl
    rw [he, h7]
    clear he
    go_enter Tryz.func40, Tryz.ntmps40
    go_wp2_with fail
    go_ret2
    exact ⟨rfl, rfl⟩
  by_cases h8 : (c.toNat : Int) = 92
  · have he : Ie.esc c = some 92 := by rw [u8_of (k := 92) h8 (by decide)]; rfl
    rw [he, h8]
    clear he
    go_enter Tryz.func40, Tryz.ntmps40
    go_wp2_with fail
    go_ret2
    exact ⟨rfl, rfl⟩
  by_cases h9 : (c.toNat : Int) = 39
  · have he : Ie.esc c = some 39 := by rw [u8_of (k := 39) h9 (by decide)]; rfl
    rw [he, h9]
    clear he
    go_enter Tryz.func40, Tryz.ntmps40
    go_wp2_with fail
    go_ret2
    exact ⟨rfl, rfl⟩
  by_cases h10 : (c.toNat : Int) = 34
  · have he : Ie.esc c = some 34 := by rw [u8_of (k := 34) h10 (by decide)]; rfl
    rw [he, h10]
    clear he
    go_enter Tryz.func40, Tryz.ntmps40
    go_wp2_with fail
    go_ret2
    exact ⟨rfl, rfl⟩
  by_cases h11 : (c.toNat : Int) = 63
  · have he : Ie.esc c = some 63 := by rw [u8_of (k := 63) h11 (by decide)]; rfl
    rw [he, h11]
    clear he
    go_enter Tryz.func40, Tryz.ntmps40
    go_wp2_with fail
    go_ret2
    exact ⟨rfl, rfl⟩
  rw [Ie.esc_none h0 h1 h2 h3 h4 h5 h6 h7 h8 h9 h10 h11]
  obtain ⟨C, hC⟩ : ∃ C : Int, C = c.toNat := ⟨_, rfl⟩
  rw [← hC] at h0 h1 h2 h3 h4 h5 h6 h7 h8 h9 h10 h11 ⊢
  clear hC
  go_enter Tryz.func40, Tryz.ntmps40
  go_wp2_with fail
  go_ret2
  exact ⟨rfl, rfl⟩

theorem list3 {s : ByteArray} (h : s.size = 3) : ∃ a b c, s.data.toList = [a, b, c] := by
  have hl : s.data.toList.length = 3 := by rw [Array.length_toList]; exact h
  match hs : s.data.toList, hl with
  | [a, b, c], _ => exact ⟨a, b, c, rfl⟩
theorem list4 {s : ByteArray} (h : s.size = 4) : ∃ a b c d, s.data.toList = [a, b, c, d] := by
  have hl : s.data.toList.length = 4 := by rw [Array.length_toList]; exact h
  match hs : s.data.toList, hl with
  | [a, b, c, d], _ => exact ⟨a, b, c, d, rfl⟩
theorem Ie.q3_yes {a b c : UInt8} (ha : (a.toNat : Int) = 39) (hc : (c.toNat : Int) = 39) (hb : ¬ (b.toNat : Int) = 92) : Ie.quote [a, b, c] = some b.toNat :=
  if_pos ⟨u8_of (k := 39) ha (by decide), u8_of (k := 39) hc (by decide), fun h => hb (by rw [h]; rfl)⟩
theorem Ie.q3_no {a b c : UInt8} (h : ¬ (a.toNat : Int) = 39 ∨ ¬ (c.toNat : Int) = 39 ∨ (b.toNat : Int) = 92) : Ie.quote [a, b, c] = none :=
  if_neg fun ⟨h1, h2, h3⟩ => by
    rcases h with h | h | h
    · exact h (by rw [h1]; rfl)
    · exact h (by rw [h2]; rfl)
    · exact h3 (u8_of (k := 92) h (by decide))
theorem Ie.q4_yes {a b c d : UInt8} (ha : (a.toNat : Int) = 39) (hd : (d.toNat : Int) = 39) (hb : (b.toNat : Int) = 92) : Ie.quote [a, b, c, d] = Ie.esc c :=
  if_pos ⟨u8_of (k := 39) ha (by decide), u8_of (k := 39) hd (by decide), u8_of (k := 92) hb (by decide)⟩
theorem Ie.q4_no {a b c d : UInt8} (h : ¬ (a.toNat : Int) = 39 ∨ ¬ (d.toNat : Int) = 39 ∨ ¬ (b.toNat : Int) = 92) : Ie.quote [a, b, c, d] = none :=
  if_neg fun ⟨h1, h2, h3⟩ => by
    rcases h with h | h | h
    · exact h (by rw [h1]; rfl)
    · exact h (by rw [h2]; rfl)
    · exact h (by rw [h3]; rfl)

set_option maxRecDepth 100000 in
set_option maxHeartbeats 4000000 in
theorem iquote_any : NumC 15 Ie.quote := by
  intro s w hG hs
  clear hG
  by_cases h3 : s.size = 3
  · obtain ⟨a, b, c, hl⟩ := list3 h3
    have g0 := byte9 (s := s) (i := 0) (c := a) (by rw [hl]; rfl) (by omega)
    have g2 := byte9 (s := s) (i := 2) (c := c) (by rw [hl]; rfl) (by omega)
    have gx := part_at (s := s) (a := 1) (b := 2) (i := 0) (c := b) (by rw [hl]; rfl) (by rw [ByteArray.size_extract]; omega)
    have hbb := b.toNat_lt
    rw [hl]
    have e1 := @Ie.q3_yes a b c
    have e2 := @Ie.q3_no a b c
    obtain ⟨A, hA⟩ : ∃ A : Int, A = a.toNat := ⟨_, rfl⟩
    obtain ⟨B, hB⟩ : ∃ B : Int, B = b.toNat := ⟨_, rfl⟩
    obtain ⟨C, hC⟩ : ∃ C : Int, C = c.toNat := ⟨_, rfl⟩
    have b1 : 0 ≤ B := by omega
    have b2 : B ≤ 255 := by omega
    rw [← hA, ← hB, ← hC] at e1 e2
    rw [← hA] at g0
    rw [← hC] at g2
    rw [← hB] at gx
    obtain ⟨q, hq⟩ : ∃ q, q = Ie.quote [a, b, c] := ⟨_, rfl⟩
    rw [← hq] at e1 e2
    have HB := Lib.hid hB
    rw [← hq]
    clear hl hA hB hC hq hbb
    by_cases ha : A = 39
    · by_cases hc : C = 39
      · by_cases hb : B = 92
        · have hq := e2 (.inr (.inr hb))
          subst hq
          clear e1 e2
          go_enter Tryz.func15, Tryz.ntmps15
          go_wp2_with fail
          go_ret2
          exact ⟨rfl, Below.refl _ _⟩
        · have hq := e1 ha hc hb
          subst hq
          have e3 : Ie.nv (some b.toNat) = B := HB.out.symm
          rw [e3]
          clear e1 e2
          go_enter Tryz.func15, Tryz.ntmps15
          go_wp2_with fail
          go_ret2
          exact ⟨rfl, Below.refl _ _⟩
      · have hq := e2 (.inr (.inl hc))
        subst hq
        clear e1 e2
        go_enter Tryz.func15, Tryz.ntmps15
        go_wp2_with fail
        go_ret2
        exact ⟨rfl, Below.refl _ _⟩
    · have hq := e2 (.inl ha)
      subst hq
      clear e1 e2
      go_enter Tryz.func15, Tryz.ntmps15
      go_wp2_with fail
      go_ret2
      exact ⟨rfl, Below.refl _ _⟩
  by_cases h4 : s.size = 4
  · obtain ⟨a, b, c, d, hl⟩ := list4 h4
    have g0 := byte9 (s := s) (i := 0) (c := a) (by rw [hl]; rfl) (by omega)
    have g3 := byte9 (s := s) (i := 3) (c := d) (by rw [hl]; rfl) (by omega)
    have gx := part_at (s := s) (a := 1) (b := 3) (i := 0) (c := b) (by rw [hl]; rfl) (by rw [ByteArray.size_extract]; omega)
    have gy := part_at (s := s) (a := 1) (b := 3) (i := 1) (c := c) (by rw [hl]; rfl) (by rw [ByteArray.size_extract]; omega)
    have K1 := Lib.hid (escaped_any c w)
    rw [hl]
    have e1 := @Ie.q4_yes a b c d
    have e2 := @Ie.q4_no a b c d
    obtain ⟨A, hA⟩ : ∃ A : Int, A = a.toNat := ⟨_, rfl⟩
    obtain ⟨B, hB⟩ : ∃ B : Int, B = b.toNat := ⟨_, rfl⟩
    obtain ⟨D, hD⟩ : ∃ D : Int, D = d.toNat := ⟨_, rfl⟩
    rw [← hA, ← hB, ← hD] at e1 e2
    rw [← hA] at g0
    rw [← hD] at g3
    rw [← hB] at gx
    obtain ⟨q, hq⟩ : ∃ q, q = Ie.quote [a, b, c, d] := ⟨_, rfl⟩
    rw [← hq] at e1 e2
    rw [← hq]
    clear hl hA hB hD hq
    by_cases ha : A = 39
    · by_cases hd : D = 39
      · by_cases hb : B = 92
        · have hq := e1 ha hd hb
          subst hq
          clear e1 e2
          go_enter Tryz.func15, Tryz.ntmps15
          go_wp2_with fail
          refine K1.out.mono ?_
          rintro e2 w2 ⟨rfl, rfl⟩
          go_wp2_with fail
          go_ret2
          exact ⟨rfl, Below.refl _ _⟩
        · have hq := e2 (.inr (.inr hb))
          subst hq
          clear e1 e2
          go_enter Tryz.func15, Tryz.ntmps15
          go_wp2_with fail
          go_ret2
          exact ⟨rfl, Below.refl _ _⟩
      · have hq := e2 (.inr (.inl hd))
        subst hq
        clear e1 e2
        go_enter Tryz.func15, Tryz.ntmps15
        go_wp2_with fail
        go_ret2
        exact ⟨rfl, Below.refl _ _⟩
    · have hq := e2 (.inl ha)
      subst hq
      clear e1 e2
      go_enter Tryz.func15, Tryz.ntmps15
      go_wp2_with fail
      go_ret2
      exact ⟨rfl, Below.refl _ _⟩
  · have hq : Ie.quote s.data.toList = none := Ie.quote_none (by rw [Array.length_toList]; exact h3) (by rw [Array.length_toList]; exact h4)
    rw [hq]
    clear hq
    rcases Nat.lt_or_ge s.size 2 with h2 | h2
    · go_enter Tryz.func15, Tryz.ntmps15
      go_wp2_with fail
      go_ret2
      exact ⟨rfl, Below.refl _ _⟩
    · have z1 : ¬ (((s.size : Int) - 1) < 1) := by omega
      have hse : (s.extract 1 (s.size - 1)).size = s.size - 2 := by rw [ByteArray.size_extract]; omega
      go_enter Tryz.func15, Tryz.ntmps15
      go_wp2_with fail
      all_goals
        go_ret2
        exact ⟨rfl, Below.refl _ _⟩

set_option maxRecDepth 100000 in
set_option maxHeartbeats 4000000 in
theorem rquote_any : NumC 16 Ie.quote := by
  intro s w hG hs
  clear hG
  by_cases h3 : s.size = 3
  · obtain ⟨a, b, c, hl⟩ := list3 h3
    have g0 := byte9 (s := s) (i := 0) (c := a) (by rw [hl]; rfl) (by omega)
    have g2 := byte9 (s := s) (i := 2) (c := c) (by rw [hl]; rfl) (by omega)
    have g1 := byte9 (s := s) (i := 1) (c := b) (by rw [hl]; rfl) (by omega)
    have hbb := b.toNat_lt
    rw [hl]
    have e1 := @Ie.q3_yes a b c
    have e2 := @Ie.q3_no a b c
    obtain ⟨A, hA⟩ : ∃ A : Int, A = a.toNat := ⟨_, rfl⟩
    obtain ⟨B, hB⟩ : ∃ B : Int, B = b.toNat := ⟨_, rfl⟩
    obtain ⟨C, hC⟩ : ∃ C : Int, C = c.toNat := ⟨_, rfl⟩
    have b1 : 0 ≤ B := by omega
    have b2 : B ≤ 255 := by omega
    rw [← hA, ← hB, ← hC] at e1 e2
    rw [← hA] at g0
    rw [← hC] at g2
    rw [← hB] at g1
    obtain ⟨q, hq⟩ : ∃ q, q = Ie.quote [a, b, c] := ⟨_, rfl⟩
    rw [← hq] at e1 e2
    have HB := Lib.hid hB
    rw [← hq]
    clear hl hA hB hC hq hbb
    by_cases ha : A = 39
    · by_cases hc : C = 39
      · by_cases hb : B = 92
        · have hq := e2 (.inr (.inr hb))
          subst hq
          clear e1 e2
          go_enter Tryz.func16, Tryz.ntmps16
          go_wp2_with fail
          go_ret2
          exact ⟨rfl, Below.refl _ _⟩
        · have hq := e1 ha hc hb
          subst hq
          have e3 : Ie.nv (some b.toNat) = B := HB.out.symm
          rw [e3]
          clear e1 e2
          go_enter Tryz.func16, Tryz.ntmps16
          go_wp2_with fail
          go_ret2
          exact ⟨rfl, Below.refl _ _⟩
      · have hq := e2 (.inr (.inl hc))
        subst hq
        clear e1 e2
        go_enter Tryz.func16, Tryz.ntmps16
        go_wp2_with fail
        go_ret2
        exact ⟨rfl, Below.refl _ _⟩
    · have hq := e2 (.inl ha)
      subst hq
      clear e1 e2
      go_enter Tryz.func16, Tryz.ntmps16
      go_wp2_with fail
      go_ret2
      exact ⟨rfl, Below.refl _ _⟩
  by_cases h4 : s.size = 4
  · obtain ⟨a, b, c, d, hl⟩ := list4 h4
    have g0 := byte9 (s := s) (i := 0) (c := a) (by rw [hl]; rfl) (by omega)
    have g3 := byte9 (s := s) (i := 3) (c := d) (by rw [hl]; rfl) (by omega)
    have g1 := byte9 (s := s) (i := 1) (c := b) (by rw [hl]; rfl) (by omega)
    have g2 := byte9 (s := s) (i := 2) (c := c) (by rw [hl]; rfl) (by omega)
    rw [hl]
    have e1 := @Ie.q4_yes a b c d
    have e2 := @Ie.q4_no a b c d
    obtain ⟨A, hA⟩ : ∃ A : Int, A = a.toNat := ⟨_, rfl⟩
    obtain ⟨B, hB⟩ : ∃ B : Int, B = b.toNat := ⟨_, rfl⟩
    obtain ⟨D, hD⟩ : ∃ D : Int, D = d.toNat := ⟨_, rfl⟩
    rw [← hA, ← hB, ← hD] at e1 e2
    rw [← hA] at g0
    rw [← hD] at g3
    rw [← hB] at g1
    obtain ⟨q, hq⟩ : ∃ q, q = Ie.quote [a, b, c, d] := ⟨_, rfl⟩
    rw [← hq] at e1 e2
    rw [← hq]
    clear hl hA hB hD hq
    by_cases ha : A = 39
    · by_cases hd : D = 39
      · by_cases hb : B = 92
        · have hq := e1 ha hd hb
          subst hq
          clear e1 e2
          by_cases y0 : (c.toNat : Int) = 110
          · have he : Ie.esc c = some 10 := by rw [u8_of (k := 110) y0 (by decide)]; rfl
            rw [he]
            rw [y0] at g2
            clear he y0
            go_enter Tryz.func16, Tryz.ntmps16
            go_wp2_with fail
            go_ret2
            exact ⟨rfl, Below.refl _ _⟩
          by_cases y1 : (c.toNat : Int) = 116
          · have he : Ie.esc c = some 9 := by rw [u8_of (k := 116) y1 (by decide)]; rfl
            rw [he]
            rw [y1] at g2
            clear he y1
            go_enter Tryz.func16, Tryz.ntmps16
            go_wp2_with fail
            go_ret2
            exact ⟨rfl, Below.refl _ _⟩
          by_cases y2 : (c.toNat : Int) = 114
          · have he : Ie.esc c = some 13 := by rw [u8_of (k := 114) y2 (by decide)]; rfl
            rw [he]
            rw [y2] at g2
            clear he y2
            go_enter Tryz.func16, Tryz.ntmps16
            go_wp2_with fail
            go_ret2
            exact ⟨rfl, Below.refl _ _⟩
          by_cases y3 : (c.toNat : Int) = 48
          · have he : Ie.esc c = some 0 := by rw [u8_of (k := 48) y3 (by decide)]; rfl
            rw [he]
            rw [y3] at g2
            clear he y3
            go_enter Tryz.func16, Tryz.ntmps16
            go_wp2_with fail
            go_ret2
            exact ⟨rfl, Below.refl _ _⟩
          by_cases y4 : (c.toNat : Int) = 97
          · have he : Ie.esc c = some 7 := by rw [u8_of (k := 97) y4 (by decide)]; rfl
            rw [he]
            rw [y4] at g2
            clear he y4
            go_enter Tryz.func16, Tryz.ntmps16
            go_wp2_with fail
            go_ret2
            exact ⟨rfl, Below.refl _ _⟩
          by_cases y5 : (c.toNat : Int) = 98
          · have he : Ie.esc c = some 8 := by rw [u8_of (k := 98) y5 (by decide)]; rfl
            rw [he]
            rw [y5] at g2
            clear he y5
            go_enter Tryz.func16, Tryz.ntmps16
            go_wp2_with fail
            go_ret2
            exact ⟨rfl, Below.refl _ _⟩
          by_cases y6 : (c.toNat : Int) = 102
          · have he : Ie.esc c = some 12 := by rw [u8_of (k := 102) y6 (by decide)]; rfl
            rw [he]
            rw [y6] at g2
            clear he y6
            go_enter Tryz.func16, Tryz.ntmps16
            go_wp2_with fail
            go_ret2
            exact ⟨rfl, Below.refl _ _⟩
          by_cases y7 : (c.toNat : Int) = 118
          · have he : Ie.esc c = some 11 := by rw [u8_of (k := 118) y7 (by decide)]; rfl
            rw [he]
            rw [y7] at g2
            clear he y7
            go_enter Tryz.func16, Tryz.ntmps16
            go_wp2_with fail
            go_ret2
            exact ⟨rfl, Below.refl _ _⟩
          by_cases y8 : (c.toNat : Int) = 92
          · have he : Ie.esc c = some 92 := by rw [u8_of (k := 92) y8 (by decide)]; rfl
            rw [he]
            rw [y8] at g2
            clear he y8
            go_enter Tryz.func16, Tryz.ntmps16
            go_wp2_with fail
            go_ret2
            exact ⟨rfl, Below.refl _ _⟩
          by_cases y9 : (c.toNat : Int) = 39
          · have he : Ie.esc c = some 39 := by rw [u8_of (k := 39) y9 (by decide)]; rfl
            rw [he]
            rw [y9] at g2
            clear he y9
            go_enter Tryz.func16, Tryz.ntmps16
            go_wp2_with fail
            go_ret2
            exact ⟨rfl, Below.refl _ _⟩
          by_cases y10 : (c.toNat : Int) = 34
          · have he : Ie.esc c = some 34 := by rw [u8_of (k := 34) y10 (by decide)]; rfl
            rw [he]
            rw [y10] at g2
            clear he y10
            go_enter Tryz.func16, Tryz.ntmps16
            go_wp2_with fail
            go_ret2
            exact ⟨rfl, Below.refl _ _⟩
          by_cases y11 : (c.toNat : Int) = 63
          · have he : Ie.esc c = some 63 := by rw [u8_of (k := 63) y11 (by decide)]; rfl
            rw [he]
            rw [y11] at g2
            clear he y11
            go_enter Tryz.func16, Tryz.ntmps16
            go_wp2_with fail
            go_ret2
            exact ⟨rfl, Below.refl _ _⟩
          rw [Ie.esc_none y0 y1 y2 y3 y4 y5 y6 y7 y8 y9 y10 y11]
          obtain ⟨C, hC⟩ : ∃ C : Int, C = c.toNat := ⟨_, rfl⟩
          rw [← hC] at g2 y0 y1 y2 y3 y4 y5 y6 y7 y8 y9 y10 y11
          clear hC
          go_enter Tryz.func16, Tryz.ntmps16
          go_wp2_with fail
          go_ret2
          exact ⟨rfl, Below.refl _ _⟩
        · have hq := e2 (.inr (.inr hb))
          subst hq
          clear e1 e2
          go_enter Tryz.func16, Tryz.ntmps16
          go_wp2_with fail
          go_ret2
          exact ⟨rfl, Below.refl _ _⟩
      · have hq := e2 (.inr (.inl hd))
        subst hq
        clear e1 e2
        go_enter Tryz.func16, Tryz.ntmps16
        go_wp2_with fail
        go_ret2
        exact ⟨rfl, Below.refl _ _⟩
    · have hq := e2 (.inl ha)
      subst hq
      clear e1 e2
      go_enter Tryz.func16, Tryz.ntmps16
      go_wp2_with fail
      go_ret2
      exact ⟨rfl, Below.refl _ _⟩
  · have hq : Ie.quote s.data.toList = none := Ie.quote_none (by rw [Array.length_toList]; exact h3) (by rw [Array.length_toList]; exact h4)
    rw [hq]
    clear hq
    rcases Nat.lt_or_ge s.size 3 with h2 | h2
    · go_enter Tryz.func16, Tryz.ntmps16
      go_wp2_with fail
      go_ret2
      exact ⟨rfl, Below.refl _ _⟩
    · have z1 : 4 < s.size := by omega
      go_enter Tryz.func16, Tryz.ntmps16
      go_wp2_with fail
      go_ret2
      exact ⟨rfl, Below.refl _ _⟩
end Go.Proofs.YtognifnalfjdgaaGreatDoor
