/- What is proved: what read tells, or throws. -/
import Derived.Test.YtfjbmenakcnadaaDoorM10
namespace Go.Proofs.YtfjbmenakcnadaaDoor
open Go.RowKit Go.Shelf Go.WideMaps

/-- A macro in memory of its own. -/
def Mac (W : World) (base : Nat) (v : Value) (m : Mx.M) : Prop :=
  ∃ pv bv, v = .agg #[.string m.name, .bool m.fn, pv, .bool m.va, bv] ∧ W.ownsRow base 9 1 pv m.ps.length (strCells m.ps) ∧ W.ownsRow base 39 6 bv m.body.length (ksCells m.body)

theorem plist_suffix (n : Nat) : ∀ (l : List K) (ps : List ByteArray) (res : List ByteArray × Bool × List K), l.length ≤ n → Mx.plist ps l = some res → res.2.2 <:+ l := by
  induction n with
  | zero =>
    intro l ps res hl h
    rw [List.length_eq_zero_iff.1 (Nat.le_zero.1 hl)] at h
    cases h
  | succ n ih =>
    intro l ps res hl h
    rcases l with _ | ⟨a, _ | ⟨b, r⟩⟩
    · cases h
    · cases h
    · rw [plist_two] at h
      split at h
      · split at h
        · obtain rfl := Option.some.inj h
          exact ⟨[a, b], rfl⟩
        · split at h
          · obtain ⟨pre, hp⟩ := ih r _ res (by simp only [List.length_cons] at hl; omega) h
            exact ⟨a :: b :: pre, by rw [← hp]; rfl⟩
          · cases h
      · cases h
theorem brack_suffix {r : List K} {fn va : Bool} {ps : List ByteArray} {l : List K} (h : Mx.brack r = .ok (fn, ps, va, l)) : l <:+ r := by
  unfold Mx.brack at h
  split at h
  · simp only [Except.ok.injEq, Prod.mk.injEq] at h
    rw [← h.2.2.2]
    exact List.suffix_refl _
  · rename_i u r
    split at h
    · simp only [Except.ok.injEq, Prod.mk.injEq] at h
      rw [← h.2.2.2]
      exact List.suffix_refl _
    · split at h
      · split at h
        · cases h
        · rename_i c r
          split at h
          · simp only [Except.ok.injEq, Prod.mk.injEq] at h
            rw [← h.2.2.2]
            exact ⟨[u, c], rfl⟩
          · split at h
            · cases h
            · rename_i ps' va' l' he
              simp only [Except.ok.injEq, Prod.mk.injEq] at h
              have := plist_suffix _ _ _ _ (Nat.le_refl _) he
              rw [← h.2.2.2]
              obtain ⟨pre, hp⟩ := this
              exact ⟨u :: pre, by rw [← hp]; rfl⟩
      · cases h

theorem brack_err {r : List K} {err : Int} (h : Mx.brack r = .error err) : err ≠ 0 := by
  unfold Mx.brack at h
  split at h
  · cases h
  · split at h
    · cases h
    · split at h
      · split at h
        · injection h with h; omega
        · split at h
          · cases h
          · split at h
            · injection h with h; omega
            · cases h
      · injection h with h; omega
theorem bodyErr_err {fn va : Bool} {ps : List ByteArray} {l : List K} {err : Int} (h : Mx.bodyErr fn ps va l = some err) : err ≠ 0 := by
  unfold Mx.bodyErr at h
  split at h
  · cases h
  · split at h
    · injection h with h; omega
    · split at h
      · injection h with h; omega
      · split at h
        · injection h with h; omega
        · cases h

theorem defi_err {t : K} {r : List K} {err : Int} (h : Mx.nameOk t = true) (hb : Mx.brack r = .error err) : Mx.defi (t :: r) = (.zero, err) := by
  simp [Mx.defi, h, hb]
theorem defi_ok {t : K} {r b : List K} {fn va : Bool} {ps : List ByteArray} (h : Mx.nameOk t = true) (hb : Mx.brack r = .ok (fn, ps, va, b)) : Mx.defi (t :: r) = Mx.bodyOf t.text fn ps va b := by
  simp [Mx.defi, h, hb]

def ReadPost (w : World) (res : Mx.M × Int) (e : Ending) (w' : World) : Prop :=
  Below w.heap.size w w' ∧ ((res.2 ≠ 0 ∧ e = thrown res.2) ∨ (res.2 = 0 ∧ ∃ v, e = .returned v ∧ Mac w' w.heap.size v res.1))

theorem mapOf_made (w : World) : MapOf (w.alloc (.map #[] 0)) w.heap.size [] false :=
  ⟨0, _, World.ownsMap_made w _ _ _, by simp, fun x _ => rfl⟩

set_option maxRecDepth 100000 in
set_option maxHeartbeats 4000000 in
theorem read_any (v : Value) (l : List K) (w : World) (hv : Ks w v l) (hx : ∀ t ∈ l, t.text.size ≤ maxLen) (hl : l.length * 56 ≤ 140737488355328) :
    Calls Tryd.prog 32 #[v] w (ReadPost w (Mx.defi l)) := by
  obtain ⟨ad, cap, rfl, hc1, hc2, hc3⟩ := id hv
  have hmm := @run_makeMap Tryd.prog
  obtain ⟨res, hres⟩ : ∃ res, res = Mx.defi l := ⟨_, rfl⟩
  rw [← hres]
  have HRES := Lib.hid hres
  have HV := Lib.hid hv
  have HX := Lib.hid hx
  have HL := Lib.hid hl
  have HC3 := Lib.hid hc3
  obtain ⟨n, hn⟩ : ∃ n, n = l.length := ⟨_, rfl⟩
  rw [← hn] at hc1 ⊢
  have HN := Lib.hid hn
  clear hres hv hx hl hc3 hn
  go_enter Tryd.func32, Tryd.ntmps32
  go_wp2_with fail
  have hkR := heap_alloc_new ((w.alloc (.cells #[.string ⟨#[]⟩, .bool false, .slice none 0 0, .bool false, .slice none 0 0] 26)).alloc (.map #[] 0)) (.cells #[.string ⟨#[]⟩, .bool false, .slice none 0 0, .bool false, .slice none 0 0, .slice ad n cap, .map (some (w.heap.size + 1))] 72)
  simp only [World.size_alloc] at hkR
  rcases l with _ | ⟨t, r⟩
  · obtain rfl : n = 0 := HN.out
    refine (name_nil w.heap.size (w.heap.size + 1 + 1) ad cap _ ?c5).mono ?_
    case c5 => exact (Lib.cell_of_heap hkR 5).trans rfl
    rintro e W1 ⟨rfl, hB1⟩
    exact ⟨rfl, Below.trans ((((Below.refl _ w).alloc (Nat.le_refl _) _).alloc (by simp) _).alloc (by simp; omega) _) hB1, .inl ⟨by rw [HRES.out]; decide, by rw [HRES.out]; rfl⟩⟩
  · have hB0 : Below w.heap.size w (((w.alloc (.cells #[.string ⟨#[]⟩, .bool false, .slice none 0 0, .bool false, .slice none 0 0] 26)).alloc (.map #[] 0)).alloc (.cells #[.string ⟨#[]⟩, .bool false, .slice none 0 0, .bool false, .slice none 0 0, .slice ad n cap, .map (some (w.heap.size + 1))] 72)) := (((Below.refl _ w).alloc (Nat.le_refl _) _).alloc (by simp) _).alloc (by simp; omega) _
    have hk0 := heap_alloc_new w (.cells #[.string ⟨#[]⟩, .bool false, .slice none 0 0, .bool false, .slice none 0 0] 26)
    replace hk0 := (Below.heap_alloc _ (.map #[] 0) _ (lt_of_block hk0)).trans hk0
    replace hk0 := (Below.heap_alloc _ (.cells #[.string ⟨#[]⟩, .bool false, .slice none 0 0, .bool false, .slice none 0 0, .slice ad n cap, .map (some (w.heap.size + 1))] 72) _ (lt_of_block hk0)).trans hk0
    have hmp := mapOf_made (w.alloc (.cells #[.string ⟨#[]⟩, .bool false, .slice none 0 0, .bool false, .slice none 0 0] 26))
    replace hmp := hmp.keep (World.grownBy_alloc _ (.cells #[.string ⟨#[]⟩, .bool false, .slice none 0 0, .bool false, .slice none 0 0, .slice ad n cap, .map (some (w.heap.size + 1))] 72) none)
    simp only [World.size_alloc] at hmp
    obtain ⟨g0, o0, rfl, -, -, -, hg0, hcs⟩ := HV.out.cells (by simp)
    have hRd : Rd _ (w.heap.size + 1) (w.heap.size + 1 + 1) (w.heap.size + 1) ⟨#[]⟩ false (.slice none 0 0) [] false (.slice none 0 0) (.slice (some ⟨g0, o0, none⟩) n cap) (t :: r) :=
      ⟨hkR, by omega, by omega, World.ownsRow_nil _ _ _ _, by simp [Value.ownBlock], by simp [Value.ownBlock], by omega, hmp, ⟨g0, o0, cap, by rw [HN.out], by rw [← HN.out]; exact hc1, hc2, by omega, fun i x hx => (hcs i x hx).below hB0 hg0⟩⟩
    have hB0' := hB0.mono (Nat.le_refl _)
    generalize ((w.alloc (.cells #[.string ⟨#[]⟩, .bool false, .slice none 0 0, .bool false, .slice none 0 0] 26)).alloc (.map #[] 0)).alloc (.cells #[.string ⟨#[]⟩, .bool false, .slice none 0 0, .bool false, .slice none 0 0, .slice (some ⟨g0, o0, none⟩) n cap, .map (some (w.heap.size + 1))] 72) = W0 at hB0 hk0 hRd ⊢
    have hsz : w.heap.size + 1 ≤ W0.heap.size := hRd.big
    have hblk : ∀ W1, Below (w.heap.size + 1) W0 W1 → Below w.heap.size w W1 := fun W1 h => hB0.trans (h.mono (Nat.le_succ _))
    have HBLK := Lib.hid hblk
    have HK0 := Lib.hid hk0
    have hxr : ∀ x ∈ r, x.text.size ≤ maxLen := fun x h => HX.out x (by simp [h])
    have hlr : r.length * 56 ≤ 140737488355328 := by have := HL.out; simp only [List.length_cons] at this; omega
    have HXR := Lib.hid hxr
    have HLR := Lib.hid hlr
    clear hkR hmp hcs hB0 hB0' hmm hsz hblk hk0 hxr hlr
    cases hno : Mx.nameOk t with
    | false =>
      have HE := Lib.hid (show res = (.zero, 60) by rw [HRES.out]; simp [Mx.defi, hno])
      refine (name_bad _ _ _ _ _ _ _ _ _ _ t r _ hRd hno).mono ?_
      rintro e W1 ⟨rfl, hB1⟩
      exact ⟨rfl, HBLK.out _ hB1, .inl ⟨by rw [HE.out]; decide, by rw [HE.out]; rfl⟩⟩
    | true =>
      refine (name_ok _ _ _ _ _ _ _ _ _ _ t r _ hRd hno).mono ?_
      rintro e W1 ⟨rfl, lv1, h1, hB1⟩
      have H1 := Lib.hid h1
      have HNO := Lib.hid hno
      clear hno hRd h1
      go_wp2_with fail
      refine (brackets_any _ _ _ _ _ _ _ r _ H1.out HXR.out HLR.out).mono ?_
      rintro e W2 (⟨err, he, rfl, hB2⟩ | ⟨fn, ps, va, b, he, rfl, pv2, lv2, h2, hB2⟩)
      · have HE := Lib.hid (show res = (.zero, err) by rw [HRES.out, defi_err HNO.out he])
        refine ⟨rfl, HBLK.out _ (hB1.trans hB2), .inl ⟨?_, by rw [HE.out]; rfl⟩⟩
        rw [HE.out]
        exact brack_err he
      · have HE := Lib.hid (show res = Mx.bodyOf t.text fn ps va b by rw [HRES.out, defi_ok HNO.out he])
        have hsuf := brack_suffix he
        have hxb : ∀ x ∈ b, x.text.size ≤ maxLen := fun x h => HXR.out x (hsuf.mem h)
        have hlb : b.length * 56 ≤ 140737488355328 := Nat.le_trans (Nat.mul_le_mul_right 56 hsuf.length_le) HLR.out
        have H2 := Lib.hid h2
        have HXB := Lib.hid hxb
        have HLB := Lib.hid hlb
        have HB := Lib.hid (hB1.trans hB2)
        clear he hsuf hxb hlb h2 hB1 hB2
        go_wp2_with fail
        refine (body_any _ _ _ _ fn pv2 ps va lv2 b _ H2.out HXB.out HLB.out).mono ?_
        rintro e W3 (⟨err, he, rfl, hB3⟩ | ⟨he, rfl, pv3, bv3, lv3, h3, hrow, hB3⟩)
        · have HE2 := Lib.hid (show res = (.zero, err) by rw [HE.out, Mx.bodyOf_err, he])
          refine ⟨rfl, HBLK.out _ (HB.out.trans hB3), .inl ⟨?_, by rw [HE2.out]; rfl⟩⟩
          rw [HE2.out]
          exact bodyErr_err he
        · have HE2 := Lib.hid (show res = (⟨t.text, fn, ps, va, Mx.bare b⟩, 0) by rw [HE.out, Mx.bodyOf_err, he])
          have hBf := HBLK.out _ (HB.out.trans hB3)
          have hkr := ((HB.out.trans hB3).block w.heap.size (by omega)).trans HK0.out
          have d0 := h3.c0
          have d1 := h3.c1
          have d2 := h3.c2
          have d3 := h3.c3
          have d4 := h3.c4
          have hRl := h3.ltR
          have r0 := (Lib.cell_of_heap hkr 0).trans rfl
          have r1 := (Lib.cell_of_heap hkr 1).trans rfl
          have r2 := (Lib.cell_of_heap hkr 2).trans rfl
          have r3 := (Lib.cell_of_heap hkr 3).trans rfl
          have r4 := (Lib.cell_of_heap hkr 4).trans rfl
          have hwl := lt_of_block hkr
          have q0 : ∀ i, W3.frozen? ⟨w.heap.size, i, none⟩ = false := fun i => by simp [World.frozen?, hkr]
          obtain ⟨pa, pn, pc, rfl⟩ := row_slice h3.prow
          obtain ⟨ba, bn, bc, rfl⟩ := row_slice hrow
          have hpn : ∀ i u, ((W3.setCell ⟨w.heap.size, i, none⟩ u)).heap.size = W3.heap.size := fun i u => by simp
          go_wp2_with fail
          have hfin : (((((W3.setCell ⟨w.heap.size, 0, none⟩ (.string t.text)).setCell ⟨w.heap.size, 1, none⟩ (.bool fn)).setCell ⟨w.heap.size, 2, none⟩ (.slice pa pn pc)).setCell ⟨w.heap.size, 3, none⟩ (.bool va)).setCell ⟨w.heap.size, 4, none⟩ (.slice ba bn bc)).heap[w.heap.size]? = some (.cells #[.string t.text, .bool fn, .slice pa pn pc, .bool va, .slice ba bn bc] 26 (0, 0)) := by
            simp [World.setCell, Array.getElem?_modify, hkr]
          have s0 := (Lib.cell_of_heap hfin 0).trans rfl
          have s1 := (Lib.cell_of_heap hfin 1).trans rfl
          have s2 := (Lib.cell_of_heap hfin 2).trans rfl
          have s3 := (Lib.cell_of_heap hfin 3).trans rfl
          have s4 := (Lib.cell_of_heap hfin 4).trans rfl
          generalize hW5 : ((((W3.setCell ⟨w.heap.size, 0, none⟩ (.string t.text)).setCell ⟨w.heap.size, 1, none⟩ (.bool fn)).setCell ⟨w.heap.size, 2, none⟩ (.slice pa pn pc)).setCell ⟨w.heap.size, 3, none⟩ (.bool va)).setCell ⟨w.heap.size, 4, none⟩ (.slice ba bn bc) = W5 at hfin s0 s1 s2 s3 s4 ⊢
          refine bodyPost_ret (v := .agg #[.string t.text, .bool fn, .slice pa pn pc, .bool va, .slice ba bn bc]) (by simp [results, Tryd.results32, go_sem, s0, s1, s2, s3, s4]) rfl ?_
          subst hW5
          have hset : ∀ W : World, W.ownsRow (w.heap.size + 1) 9 1 (.slice pa pn pc) ps.length (strCells ps) → W.ownsRow (w.heap.size + 1) 39 6 (.slice ba bn bc) b.length (ksCells (Mx.bare b)) → Below w.heap.size w W → ∀ i u, (W.setCell ⟨w.heap.size, i, none⟩ u).ownsRow (w.heap.size + 1) 9 1 (.slice pa pn pc) ps.length (strCells ps) ∧ (W.setCell ⟨w.heap.size, i, none⟩ u).ownsRow (w.heap.size + 1) 39 6 (.slice ba bn bc) b.length (ksCells (Mx.bare b)) ∧ Below w.heap.size w (W.setCell ⟨w.heap.size, i, none⟩ u) :=
            fun W h1 h2 h3 i u => ⟨ownsRow_setCell_below h1 (by simp) u, ownsRow_setCell_below h2 (by simp) u, h3.setCell (Nat.le_refl _) u⟩
          obtain ⟨x1, x2, x3⟩ := hset _ h3.prow hrow hBf 0 (.string t.text)
          obtain ⟨x1, x2, x3⟩ := hset _ x1 x2 x3 1 (.bool fn)
          obtain ⟨x1, x2, x3⟩ := hset _ x1 x2 x3 2 (.slice pa pn pc)
          obtain ⟨x1, x2, x3⟩ := hset _ x1 x2 x3 3 (.bool va)
          obtain ⟨x1, x2, x3⟩ := hset _ x1 x2 x3 4 (.slice ba bn bc)
          refine ⟨x3, .inr ⟨by rw [HE2.out], _, rfl, ?_⟩⟩
          rw [HE2.out]
          exact ⟨_, _, rfl, x1.mono (Nat.le_succ _), by rw [bare_len]; exact x2.mono (Nat.le_succ _)⟩
end Go.Proofs.YtfjbmenakcnadaaDoor
