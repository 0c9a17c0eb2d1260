/- What is proved: what step does. (and what stands with it) -/
import Derived.Test.YtlepnafgcmeimaaGreatDoorGm
import Derived.Test.YtlepnafgcmeimaaGreatDoorGj
import Derived.LaidEqlPtr
import Derived.MapKept
import Derived.ChangeMaps5
import Derived.Test.YtlepnafgcmeimaaGreatDoorGd
import Derived.Test.YtlepnafgcmeimaaGreatDoorGk
import Derived.Maps.AppendAt
import Derived.BigRegion

/- What is proved: what step does. -/
namespace Go.Proofs.YtlepnafgcmeimaaGreatDoor
open Go.RowKit Go.Shelf
open Ep (HT)
open Mx (M)

noncomputable def stepBody : Code := Tryz.f62.body.getD .skip
theorem box3_cells {W : World} {b t : Nat} {a0 a1 a2 : Value} (h : W.heap[b]? = some (.cells #[a0, a1, a2] t (0, 0))) :
    W.cell? ⟨b, 0, none⟩ = some a0 ∧ W.cell? ⟨b, 1, none⟩ = some a1 ∧ W.cell? ⟨b, 2, none⟩ = some a2 ∧ (∀ i, W.frozen? ⟨b, i, none⟩ = false) :=
  ⟨(Lib.cell_of_heap h 0).trans rfl, (Lib.cell_of_heap h 1).trans rfl, (Lib.cell_of_heap h 2).trans rfl, fun i => by simp [World.frozen?, h]⟩

set_option maxRecDepth 100000 in
set_option maxHeartbeats 4000000 in
/-- A macro that has its plan: a step more. -/
theorem estep_old (xb kb : Nat) (mp : Value) (np steps : Nat) (z0 z1 z2 z3 z4 : Value) (pa : Addr) (w : World) (hx : w.heap[xb]? = some (.cells #[mp, .int .i64 (np : Int), .int .i64 (steps : Int)] 81 (0, 0)))
    (hk : w.heap[kb]? = some (.cells #[z0, z1, z2, z3, z4, .pointer (some pa)] 85 (0, 0))) (hs : steps < 1000) :
    Calls Tryz.prog 62 #[.pointer (some ⟨xb, 0, none⟩), .pointer (some ⟨kb, 0, none⟩)] w fun e w' => e = .returned (.int .i64 0) ∧ w' = w.setCell ⟨xb, 2, none⟩ (.int .i64 ((steps : Int) + 1)) := by
  obtain ⟨x0, x1, x2, xf⟩ := box3_cells hx
  obtain ⟨k0, k1, k2, k3, k4, k5⟩ := box6_cells hk
  have hne : kb ≠ xb := fun e => by rw [e, hx] at hk; injection hk with h; injection h with _ h _; exact absurd h (by decide)
  have q1 : ¬ (steps : Int) = 1000 := by omega
  have q2 : ¬ steps = 1000 := by omega
  have q3 : IntKind.i64.wrap ((steps : Int) + 1) = ((steps : Int) + 1) := IntWalk.i64_in _ (by omega)
  have q4 : ((steps : Int) == 1000) = false := by simpa using q1
  have k5' : (w.setCell ⟨xb, 2, none⟩ (.int .i64 ((steps : Int) + 1))).cell? ⟨kb, 5, none⟩ = some (.pointer (some pa)) := (World.cell?_of_block (a := ⟨kb, 5, none⟩) (heap_setCell_other w ⟨xb, 2, none⟩ kb _ hne)).trans k5
  clear hx hk
  go_enter Tryz.func62, Tryz.ntmps62
  go_wp2_with fail
  go_ret
  exact ⟨rfl, rfl⟩

set_option maxRecDepth 100000 in
set_option maxHeartbeats 4000000 in
/-- A macro's first time: its plan is made. -/
theorem estep_new (xb kb : Nat) (mp : Value) (np steps : Nat) (m : M) (pv bv : Value) (w0 w : World) (hx : w.heap[xb]? = some (.cells #[mp, .int .i64 (np : Int), .int .i64 (steps : Int)] 81 (0, 0)))
    (hk : w.heap[kb]? = some (.cells #[.string m.name, .bool m.fn, pv, .bool m.va, bv, .pointer none] 85 (0, 0))) (hm : MacV w0 (.agg #[.string m.name, .bool m.fn, pv, .bool m.va, bv]) m) (hB0 : Below w0.heap.size w0 w) (hxb : w0.heap.size ≤ xb) (hs : steps < 1000) (hn : np ≤ 1000000)
    (hbx : ∀ u ∈ m.body, u.text.size ≤ 1000000000) (hl : m.body.length ≤ 1000000) (hps : m.ps.length ≤ 1000000) (hsz : ∀ p ∈ m.ps, p.size ≤ 1000000000) :
    Calls Tryz.prog 62 #[.pointer (some ⟨xb, 0, none⟩), .pointer (some ⟨kb, 0, none⟩)] w fun e w' => e = .returned (.int .i64 0) ∧ ∃ pb sv uv W1, PlW W1 w.heap.size pb np sv uv (Ep.pieces m) (Ep.pieces m) (m.ps.length + 1) ∧ Below w.heap.size (w.setCell ⟨xb, 2, none⟩ (.int .i64 ((steps : Int) + 1))) W1 ∧
      w' = (W1.setCell ⟨kb, 5, none⟩ (.pointer (some ⟨pb, 0, none⟩))).setCell ⟨xb, 1, none⟩ (.int .i64 ((np : Int) + 1)) := by
  obtain ⟨x0, x1, x2, xf⟩ := box3_cells hx
  obtain ⟨k0, k1, k2, k3, k4, k5⟩ := box6_cells hk
  have hne : kb ≠ xb := fun e => by rw [e, hx] at hk; injection hk with h; injection h with _ h _; exact absurd h (by decide)
  have q1 : ¬ (steps : Int) = 1000 := by omega
  have q2 : ¬ steps = 1000 := by omega
  have q3 : IntKind.i64.wrap ((steps : Int) + 1) = (steps : Int) + 1 := IntWalk.i64_in _ (by omega)
  have q4 : ((steps : Int) == 1000) = false := by simpa using q1
  have q5 : IntKind.i64.wrap ((np : Int) + 1) = (np : Int) + 1 := IntWalk.i64_in _ (by omega)
  have hk1 : (w.setCell ⟨xb, 2, none⟩ (.int .i64 ((steps : Int) + 1))).heap[kb]? = _ := (heap_setCell_other w ⟨xb, 2, none⟩ kb _ hne).trans hk
  have hx1 : (w.setCell ⟨xb, 2, none⟩ (.int .i64 ((steps : Int) + 1))).heap[xb]? = some (.cells #[mp, .int .i64 (np : Int), .int .i64 ((steps : Int) + 1)] 81 (0, 0)) := by simp [World.setCell, Array.getElem?_modify, hx]
  have hs1 : (w.setCell ⟨xb, 2, none⟩ (.int .i64 ((steps : Int) + 1))).heap.size = w.heap.size := by simp
  have hm1 : MacV (w.setCell ⟨xb, 2, none⟩ (.int .i64 ((steps : Int) + 1))) (.agg #[.string m.name, .bool m.fn, pv, .bool m.va, bv]) m := hm.below (hB0.setCell (show w0.heap.size ≤ xb from hxb) _)
  have KP := Lib.hid (eplanOf_any _ m np (w.setCell ⟨xb, 2, none⟩ (.int .i64 ((steps : Int) + 1))).drew (hm1.below (Below.refl _ _).drew) hbx hl hps hsz)
  have HK1 := Lib.hid hk1
  have HX1 := Lib.hid hx1
  have HS1 := Lib.hid hs1
  have g5 : (w.setCell ⟨xb, 2, none⟩ (.int .i64 ((steps : Int) + 1))).cell? ⟨kb, 5, none⟩ = some (.pointer none) := (Lib.cell_of_heap hk1 5).trans rfl
  clear hm hm1 hB0 hxb hbx hl hps hsz hk1 hx1 hs1 hk hx
  go_enter Tryz.func62, Tryz.ntmps62
  go_wp2_with fail
  obtain ⟨y0, y1, y2, yf⟩ := box3_cells HX1.out
  obtain ⟨l0, l1, l2, l3, l4, l5⟩ := box6_cells HK1.out
  have hkl := lt_of_heap HK1.out
  have hxl := lt_of_heap HX1.out
  generalize hVe : (w.setCell ⟨xb, 2, none⟩ (.int .i64 ((steps : Int) + 1))) = V at KP HK1 HX1 HS1 g5 y0 y1 y2 yf l0 l1 l2 l3 l4 l5 hkl hxl ⊢
  have HVE := Lib.hid hVe
  clear hVe
  have HKL := Lib.hid hkl
  have HXL := Lib.hid hxl
  clear x0 x1 x2 xf k5 g5 hkl hxl
  go_region_with ((go_at_call 78; go_split_ands; refine KP.out.mono ?_; rintro e4 w4 ⟨pb, sv, uv, rfl, hpl, hb4⟩; have hk4 := (hb4.block kb HKL.out).trans HK1.out; have hx4 := (hb4.block xb HXL.out).trans HX1.out; obtain ⟨m0, m1, m2, m3, m4, m5⟩ := box6_cells hk4; have mf : ∀ i, w4.frozen? ⟨kb, i, none⟩ = false := (fun i => by simp [World.frozen?, hk4]); have HK4 := Lib.hid hk4; have HX4 := Lib.hid hx4; have HPL := Lib.hid hpl; have HB4 := Lib.hid hb4; clear hk4 hx4 hpl hb4))
  all_goals
    have hx5 : (w4.setCell ⟨kb, 5, none⟩ (.pointer (some ⟨pb, 0, none⟩))).heap[xb]? = _ := (heap_setCell_other w4 ⟨kb, 5, none⟩ xb _ (Ne.symm hne)).trans HX4.out
    obtain ⟨n0, n1, n2, nf⟩ := box3_cells hx5
    clear hx5 m0 m1 m2 m3 m4 m5 mf y0 y1 y2 yf l0 l1 l2 l3 l4 l5
    have hbV : Below w.heap.size V w4 := by
      have h1 := (Below.refl V.heap.size V).drew.trans HB4.out
      rw [HS1.out] at h1
      exact h1
    have HBV := Lib.hid hbV
    have hplV : PlW w4 w.heap.size pb np sv uv (Ep.pieces m) (Ep.pieces m) (m.ps.length + 1) := by
      have h1 := HPL.out
      rw [show V.drew.heap.size = w.heap.size from HS1.out] at h1
      exact h1
    have HPV := Lib.hid hplV
    clear hbV hplV
    go_wp2_with fail
    go_ret
    exact ⟨rfl, pb, sv, uv, w4, HPV.out, by rw [HVE.out]; exact HBV.out, rfl⟩
end Go.Proofs.YtlepnafgcmeimaaGreatDoor

/- What is proved: maps whose keys are pointers to hide sets, or texts: look-up, and a new key. -/
namespace Go.Proofs.YtlepnafgcmeimaaGreatDoor
open Go.RowKit Go.Shelf Go.MapKept

/-- What stands first under a key. -/
def lk {κ : Type} [DecidableEq κ] (k : κ) : List (κ × Value) → Option Value
  | [] => none
  | (a, v) :: r => if a = k then some v else lk k r
theorem lk_snoc {κ : Type} [DecidableEq κ] (k a : κ) (v : Value) : ∀ (es : List (κ × Value)), lk k (es ++ [(a, v)]) = match lk k es with | some x => some x | none => if a = k then some v else none
  | [] => rfl
  | (b, u) :: r => by
    rw [List.cons_append, lk, lk, lk_snoc k a v r]
    by_cases h : b = k
    · rw [if_pos h, if_pos h]
    · rw [if_neg h, if_neg h]
theorem lk_mem {κ : Type} [DecidableEq κ] {k : κ} {v : Value} : ∀ {es : List (κ × Value)}, lk k es = some v → (k, v) ∈ es
  | [], h => by cases h
  | (b, u) :: r, h => by
    rw [lk] at h
    by_cases e : b = k
    · rw [if_pos e] at h
      injection h with h
      rw [e, h]
      exact List.mem_cons_self
    · rw [if_neg e] at h
      exact List.mem_cons_of_mem _ (lk_mem h)
/-- A map in memory whose entries are these. -/
def MpAt {κ : Type} (key : κ → Value) (W : World) (mb : Nat) (es : List (κ × Value)) : Prop :=
  ∃ arr clock, W.heap[mb]? = some (.map arr clock) ∧ arr.toList.map (fun e => (e.key, e.val)) = es.map (fun x => (key x.1, x.2))
section
variable {κ : Type} {key : κ → Value} {W W' : World} {mb : Nat} {es : List (κ × Value)}
theorem MpAt.lt (h : MpAt key W mb es) : mb < W.heap.size := by obtain ⟨_, _, h, _⟩ := h; exact lt_of_heap h
theorem MpAt.keep (h : MpAt key W mb es) (hb : ∀ o, W.heap[mb]? = some o → W'.heap[mb]? = some o) : MpAt key W' mb es := by
  obtain ⟨arr, clock, h1, h2⟩ := h
  exact ⟨arr, clock, hb _ h1, h2⟩
theorem MpAt.below (h : MpAt key W mb es) (hb : Below W.heap.size W W') : MpAt key W' mb es := h.keep fun _ ho => (hb.block mb (lt_of_heap ho)).trans ho
theorem MpAt.new (key : κ → Value) (W : World) : MpAt key (W.alloc (.map #[] 0)) W.heap.size [] := ⟨#[], 0, heap_alloc_new W (.map #[] 0), rfl⟩
theorem MpAt.set (h : MpAt key W mb es) {a : Addr} {cs : Array Value} {t : TypeId} {fz : Nat × Nat} (hk : W.heap[a.block]? = some (.cells cs t fz)) (u : Value) : MpAt key (W.setCell a u) mb es :=
  h.keep fun o ho => (heap_setCell_other W a mb u fun e => by
    obtain ⟨arr, clock, h1, _⟩ := h
    rw [e, hk] at h1
    cases h1).trans ho
end

/-! ### keys that are pointers to hide sets -/
def ptrKey (p : Option Addr) : Value := .pointer p
theorem infoNm : (Tryz.prog.info? 137).map (fun i => i.size) = some 16 := by kernel_rfl
theorem equal_ptrs {W : World} {p q : Option Addr} {h k : Nat} (hp : HidP W p h) (hq : HidP W q k) : (Op.equal 90 (.pointer p) (.pointer q)).run Tryz.prog W = .ok (decide (p = q)) W := by
  obtain ⟨j, hj, hsz⟩ : ∃ j, Tryz.prog.info? 137 = some j ∧ j.size = 16 := by
    have := infoNm
    cases hi : Tryz.prog.info? 137 with
    | none => rw [hi] at this; cases this
    | some j => rw [hi] at this; injection this with this; exact ⟨j, rfl, this⟩
  suffices hd : ∀ d : Nat, (Op.equalIn (d + 1) 90 (.pointer p) (.pointer q)).run Tryz.prog W = .ok (decide (p = q)) W from hd 9999
  intro d
  obtain ⟨-, ⟨rfl, -⟩ | ⟨a, rfl, ha⟩⟩ := hp
  · obtain ⟨-, ⟨rfl, -⟩ | ⟨b, rfl, hb⟩⟩ := hq
    · simp [Op.equalIn, run_underlying Tryz.underlying90]
    · simp [Op.equalIn, run_underlying Tryz.underlying90]
  · obtain ⟨-, ⟨rfl, -⟩ | ⟨b, rfl, hb⟩⟩ := hq
    · simp [Op.equalIn, run_underlying Tryz.underlying90]
    · by_cases e : a = b
      · subst e
        simp [Op.equalIn, run_underlying Tryz.underlying90, sizeOf, typeInfo, hj, run_sameAddr_same]
      · have hne : (⟨a, 0, none⟩ : Addr) ≠ ⟨b, 0, none⟩ := fun h => e (by injection h)
        simp [Op.equalIn, run_underlying Tryz.underlying90, sizeOf, typeInfo, hj, hsz, run_sameAddr_other W hne ha hb]
theorem checkPtr (b : Bool) (p : Option Addr) (W : World) : (Instr.checkKey b 10000 90 (.pointer p)).run Tryz.prog W = .ok () W := by kernel_rfl
theorem findAsk_ptr {W : World} {p : Option Addr} {h : Nat} (hp : HidP W p h) : ∀ (l : List MapEntry) (es : List (Option Addr × Value)) (j : Nat), l.map (fun e => (e.key, e.val)) = es.map (fun x => (ptrKey x.1, x.2)) → (∀ x ∈ es, ∃ k, HidP W x.1 k) →
    (lk p es = none ∧ (Instr.findAsking 90 (.pointer p) l j).run Tryz.prog W = .ok none W) ∨ ∃ i v, lk p es = some v ∧ (Instr.findAsking 90 (.pointer p) l j).run Tryz.prog W = .ok (some (i, v)) W
  | [], [], j, _, _ => .inl ⟨rfl, rfl⟩
  | [], _ :: _, _, he, _ => by cases he
  | _ :: _, [], _, he, _ => by cases he
  | e :: l, (a, v) :: es, j, he, hk => by
    rw [List.map_cons, List.map_cons] at he
    injection he with h1 h2
    injection h1 with h3 h4
    obtain ⟨k, hak⟩ := hk _ List.mem_cons_self
    have hq := equal_ptrs hp hak
    unfold Instr.findAsking
    have h3 : e.key = .pointer a := h3
    rw [h3, Sem.run_bind, hq, Result.andThen_ok, Sem.run_ite, lk]
    by_cases hx : a = p
    · right
      refine ⟨j, v, by rw [if_pos hx], ?_⟩
      have h4 : e.val = v := h4
      rw [decide_eq_true hx.symm, if_pos rfl, h4]
      rfl
    · rw [if_neg hx, decide_eq_false (fun e => hx e.symm), if_neg (by decide)]
      exact findAsk_ptr hp l es (j + 1) h2 (fun x hx => hk x (List.mem_cons_of_mem _ hx))
theorem findKey_ptr {W : World} {p : Option Addr} {h : Nat} (hp : HidP W p h) (l : List MapEntry) (es : List (Option Addr × Value)) (he : l.map (fun e => (e.key, e.val)) = es.map (fun x => (ptrKey x.1, x.2))) (hk : ∀ x ∈ es, ∃ k, HidP W x.1 k) :
    (lk p es = none ∧ (Instr.findKey 90 (.pointer p) l).run Tryz.prog W = .ok none W) ∨ ∃ i v, lk p es = some v ∧ (Instr.findKey 90 (.pointer p) l).run Tryz.prog W = .ok (some (i, v)) W := by
  unfold Instr.findKey
  rw [Sem.run_bind, run_underlying Tryz.underlying90, Result.andThen_ok]
  cases l with
  | nil =>
    cases es with
    | nil => exact .inl ⟨rfl, rfl⟩
    | cons a b => cases he
  | cons e l =>
    unfold Instr.findNow
    rw [show Instr.sameNow (.pointer 137) (.pointer p) e.key = none from rfl]
    exact findAsk_ptr hp (e :: l) es 0 he hk
theorem zeroPNm (W : World) : (zeroValue 90).run Tryz.prog W = .ok (.pointer none) W := by kernel_rfl
theorem look_ptr {W : World} {mb : Nat} {es : List (Option Addr × Value)} {p : Option Addr} {h : Nat} (hm : MpAt ptrKey W mb es) (hp : HidP W p h) (hk : ∀ x ∈ es, ∃ k, HidP W x.1 k) :
    (Instr.lookup 151 (.map (some mb)) (.pointer p) false).run Tryz.prog W = .ok ((lk p es).getD (.pointer none)) W := by
  obtain ⟨arr, clock, h1, h2⟩ := hm
  have hg := Go.MapKept.run_getObj_map (P := Tryz.prog) h1
  unfold Instr.lookup
  simp only [Sem.run_bind, run_underlying Tryz.underlying151, Result.andThen_ok, hg, Sem.run_pure, checkPtr]
  rcases findKey_ptr hp _ _ h2 hk with ⟨e1, e2⟩ | ⟨i, v, e1, e2⟩
  · rw [e2, e1]
    simp only [Option.getD_none]
    simp
  · rw [e2, e1]
    simp
theorem new_ptr {W : World} {mb : Nat} {es : List (Option Addr × Value)} {p : Option Addr} {h : Nat} (hm : MpAt ptrKey W mb es) (hp : HidP W p h) (hk : ∀ x ∈ es, ∃ k, HidP W x.1 k) (hn : lk p es = none) (v : Value) :
    ∃ W', (Instr.mapUpdate 151 (.map (some mb)) (.pointer p) v).run Tryz.prog W = .ok () W' ∧ MpAt ptrKey W' mb (es ++ [(p, v)]) ∧ W.grownBy W' (some mb) := by
  obtain ⟨arr, clock, h1, h2⟩ := hm
  have hg := Go.MapKept.run_getObj_map (P := Tryz.prog) h1
  have hs := Go.MapKept.run_setObj_map (P := Tryz.prog) (.map (arr.push { key := .pointer p, val := v, born := clock }) (clock + 1)) h1
  have hh := heap_set (o' := .map (arr.push { key := .pointer p, val := v, born := clock }) (clock + 1)) h1
  refine ⟨{ W with heap := W.heap.setIfInBounds mb (.map (arr.push { key := .pointer p, val := v, born := clock }) (clock + 1)) }, ?_, ⟨_, _, hh.1, ?_⟩, rfl, rfl, rfl, ?_, fun i hi hne => hh.2 i (fun e => hne (by rw [e]))⟩
  · unfold Instr.mapUpdate
    simp only [Sem.run_bind, run_underlying Tryz.underlying151, Result.andThen_ok, hg, checkPtr]
    rcases findKey_ptr hp _ _ h2 hk with ⟨e1, e2⟩ | ⟨i, v', e1, e2⟩
    · rw [e2]
      exact hs
    · rw [e1] at hn; cases hn
  · simp only [Array.toList_push, List.map_append, List.map_cons, List.map_nil, h2]
    rfl
  · simp

/-! ### keys that are texts -/
def strKey (s : ByteArray) : Value := .string s
theorem findNow_str {s : ByteArray} : ∀ (l : List MapEntry) (es : List (ByteArray × Value)) (j : Nat), l.map (fun e => (e.key, e.val)) = es.map (fun x => (strKey x.1, x.2)) →
    (lk s es = none ∧ Instr.findNow .string (.string s) l j = some none) ∨ ∃ i v, lk s es = some v ∧ Instr.findNow .string (.string s) l j = some (some (i, v))
  | [], [], j, _ => .inl ⟨rfl, rfl⟩
  | [], _ :: _, _, he => by cases he
  | _ :: _, [], _, he => by cases he
  | e :: l, (a, v) :: es, j, he => by
    rw [List.map_cons, List.map_cons] at he
    injection he with h1 h2
    injection h1 with h3 h4
    have h3 : e.key = .string a := h3
    have h4 : e.val = v := h4
    unfold Instr.findNow
    rw [h3, show Instr.sameNow .string (.string s) (.string a) = some (s == a) from rfl, lk]
    by_cases hx : a = s
    · right
      refine ⟨j, v, by rw [if_pos hx], ?_⟩
      rw [(bytes_beq s a).2 hx.symm, h4]
    · have hb : (s == a) = false := by
        cases hb : s == a with
        | false => rfl
        | true => exact absurd ((bytes_beq s a).1 hb).symm hx
      rw [if_neg hx, hb]
      exact findNow_str l es (j + 1) h2
theorem findKey_str {W : World} (s : ByteArray) (l : List MapEntry) (es : List (ByteArray × Value)) (he : l.map (fun e => (e.key, e.val)) = es.map (fun x => (strKey x.1, x.2))) :
    (lk s es = none ∧ (Instr.findKey 9 (.string s) l).run Tryz.prog W = .ok none W) ∨ ∃ i v, lk s es = some v ∧ (Instr.findKey 9 (.string s) l).run Tryz.prog W = .ok (some (i, v)) W := by
  rcases findNow_str (s := s) l es 0 he with ⟨h1, h2⟩ | ⟨i, v, h1, h2⟩
  · exact .inl ⟨h1, Go.MapKept.run_findKey Tryz.underlying9 h2⟩
  · exact .inr ⟨i, v, h1, Go.MapKept.run_findKey Tryz.underlying9 h2⟩
theorem checkStr (b : Bool) (s : ByteArray) (W : World) : (Instr.checkKey b 10000 9 (.string s)).run Tryz.prog W = .ok () W := by kernel_rfl
theorem zeroPKn (W : World) : (zeroValue 82).run Tryz.prog W = .ok (.pointer none) W := by kernel_rfl
theorem look_str {W : World} {mb : Nat} {es : List (ByteArray × Value)} (hm : MpAt strKey W mb es) (s : ByteArray) :
    (Instr.lookup 79 (.map (some mb)) (.string s) false).run Tryz.prog W = .ok ((lk s es).getD (.pointer none)) W := by
  obtain ⟨arr, clock, h1, h2⟩ := hm
  have hg := Go.MapKept.run_getObj_map (P := Tryz.prog) h1
  unfold Instr.lookup
  simp only [Sem.run_bind, run_underlying Tryz.underlying79, Result.andThen_ok, hg, Sem.run_pure, checkStr]
  rcases findKey_str (W := W) s _ _ h2 with ⟨e1, e2⟩ | ⟨i, v, e1, e2⟩
  · rw [e2, e1]
    simp
  · rw [e2, e1]
    simp
theorem new_str {W : World} {mb : Nat} {es : List (ByteArray × Value)} (hm : MpAt strKey W mb es) (s : ByteArray) (hn : lk s es = none) (v : Value) :
    ∃ W', (Instr.mapUpdate 79 (.map (some mb)) (.string s) v).run Tryz.prog W = .ok () W' ∧ MpAt strKey W' mb (es ++ [(s, v)]) ∧ W.grownBy W' (some mb) := by
  obtain ⟨arr, clock, h1, h2⟩ := hm
  have hg := Go.MapKept.run_getObj_map (P := Tryz.prog) h1
  have hs := Go.MapKept.run_setObj_map (P := Tryz.prog) (.map (arr.push { key := .string s, val := v, born := clock }) (clock + 1)) h1
  have hh := heap_set (o' := .map (arr.push { key := .string s, val := v, born := clock }) (clock + 1)) h1
  refine ⟨{ W with heap := W.heap.setIfInBounds mb (.map (arr.push { key := .string s, val := v, born := clock }) (clock + 1)) }, ?_, ⟨_, _, hh.1, ?_⟩, rfl, rfl, rfl, ?_, fun i hi hne => hh.2 i (fun e => hne (by rw [e]))⟩
  · unfold Instr.mapUpdate
    simp only [Sem.run_bind, run_underlying Tryz.underlying79, Result.andThen_ok, hg, checkStr]
    rcases findKey_str (W := W) s _ _ h2 with ⟨e1, e2⟩ | ⟨i, v', e1, e2⟩
    · rw [e2]
      exact hs
    · rw [e1] at hn; cases hn
  · simp only [Array.toList_push, List.map_append, List.map_cons, List.map_nil, h2]
    rfl
  · simp
theorem grown_below {w W W' : World} {n : Nat} {mb : Nat} (hB : Below n w W) (hg : W.grownBy W' (some mb)) (hn : n ≤ mb) (hs : n ≤ W.heap.size) : Below n w W' :=
  ⟨hg.os.trans hB.os, hg.tape.trans hB.tape, hg.output.trans hB.output, Nat.le_trans hB.size hg.size, fun b hb => (hg.block b (by omega) (fun e => by injection e with e; omega)).trans (hB.block b hb)⟩
end Go.Proofs.YtlepnafgcmeimaaGreatDoor

/- What is proved: what hide does. -/
namespace Go.Proofs.YtlepnafgcmeimaaGreatDoor
open Go.RowKit Go.Shelf
open Ep (HT)

/-! ### plain -/
def Ep.hidTo (k : Nat) (l : List HT) (h : Nat) : List HT := Ep.hide (l.take k) h ++ l.drop k
theorem Ep.hide_length (l : List HT) (h : Nat) : (Ep.hide l h).length = l.length := by simp [Ep.hide]
theorem Ep.hidTo_length (k : Nat) (l : List HT) (h : Nat) : (Ep.hidTo k l h).length = l.length := by
  simp only [Ep.hidTo, List.length_append, Ep.hide_length, List.length_take, List.length_drop]
  omega
theorem Ep.hidTo_zero (l : List HT) (h : Nat) : Ep.hidTo 0 l h = l := by simp [Ep.hidTo, Ep.hide]
theorem Ep.hidTo_all (l : List HT) (h k : Nat) (hk : l.length ≤ k) : Ep.hidTo k l h = Ep.hide l h := by
  simp [Ep.hidTo, List.take_of_length_le hk, List.drop_eq_nil_of_le hk]
theorem Ep.hidTo_get {k : Nat} {l : List HT} {x : HT} (h : Nat) (hx : l[k]? = some x) : (Ep.hidTo k l h)[k]? = some x := by
  have hk := (List.getElem?_eq_some_iff.1 hx).1
  have h1 : (Ep.hide (l.take k) h).length = k := by rw [Ep.hide_length, List.length_take]; omega
  rw [Ep.hidTo, List.getElem?_append_right (by omega), h1, Nat.sub_self, List.getElem?_drop, Nat.add_zero]
  exact hx
theorem Ep.hidTo_set {k : Nat} {l : List HT} {x : HT} (h : Nat) (hx : l[k]? = some x) : (Ep.hidTo k l h).set k ⟨x.t, x.hd ||| h, x.mark⟩ = Ep.hidTo (k + 1) l h := by
  have hk := (List.getElem?_eq_some_iff.1 hx).1
  have h1 : (Ep.hide (l.take k) h).length = k := by rw [Ep.hide_length, List.length_take]; omega
  have h2 : l.drop k = x :: l.drop (k + 1) := by rw [List.drop_eq_getElem_cons hk, (List.getElem?_eq_some_iff.1 hx).2]
  have h3 : l.take (k + 1) = l.take k ++ [x] := by rw [List.take_succ_eq_append_getElem hk, (List.getElem?_eq_some_iff.1 hx).2]
  rw [Ep.hidTo, Ep.hidTo, List.set_append_right _ _ (by omega), h1, Nat.sub_self, h2, List.set_cons_zero, h3]
  simp [Ep.hide]

/-! ### in memory -/
theorem HCs.setHid {W : World} {d : Option Addr} {h' : Nat} (hd : HidP W d h') : ∀ {l : List HT} {cs : List Value} {k : Nat} {x : HT}, HCs W l cs → l[k]? = some x → HCs W (l.set k ⟨x.t, h', x.mark⟩) (cs.set (k * 8 + 6) (.pointer d))
  | [], _, _, _, _, hx => by simp at hx
  | y :: l, cs, 0, x, ⟨p, r, e, hp, hr⟩, hx => by
    simp only [List.getElem?_cons_zero, Option.some.injEq] at hx
    subst hx e
    exact ⟨d, r, rfl, hd, hr⟩
  | y :: l, cs, k + 1, x, ⟨p, r, e, hp, hr⟩, hx => by
    simp only [List.getElem?_cons_succ] at hx
    subst e
    refine ⟨p, r.set (k * 8 + 6) (.pointer d), ?_, hp, HCs.setHid hd hr hx⟩
    rw [List.set_append_right _ _ (by rw [htCells_length]; omega), htCells_length, show (k + 1) * 8 + 6 - 8 = k * 8 + 6 by omega]
theorem HRow.block {W : World} {n g m cap : Nat} {l : List HT} (h : HRow W n (.slice (some ⟨g, 0, none⟩) m cap) l) : ∃ cur, W.heap[g]? = some (.cells cur 92 (0, 0)) ∧ n ≤ g := by
  obtain ⟨cs, hrow, -⟩ := h
  rcases hrow.2 with ⟨h', _⟩ | ⟨g', cap', cur, h', h1, h2, _⟩
  · cases h'
  · cases h'; exact ⟨cur, h2, h1⟩
theorem HRow.setHid {W : World} {n g m cap k : Nat} {l : List HT} {x : HT} {d : Option Addr} {h' : Nat} (h : HRow W n (.slice (some ⟨g, 0, none⟩) m cap) l) (hx : l[k]? = some x) (hd : HidP W d h') :
    HRow (W.setCell ⟨g, k * 8 + 6, none⟩ (.pointer d)) n (.slice (some ⟨g, 0, none⟩) m cap) (l.set k ⟨x.t, h', x.mark⟩) := by
  obtain ⟨cur, hg, -⟩ := h.block
  obtain ⟨cs, hrow, hcs⟩ := h
  obtain rfl : m = l.length := by
    rcases hrow.2 with ⟨h', _⟩ | ⟨g', cap', cur, h', _⟩
    · cases h'
    · cases h'; rfl
  refine ⟨cs.set (k * 8 + 6) (.pointer d), ?_, (hcs.setHid hd hx).keep (Kept.set hg (by decide))⟩
  have := (hrow.stored (k * 8 + 6) (.pointer d)).1
  rw [List.length_set]
  exact this
/-- What a map of hide sets says. -/
def SetsOk (W : World) (h : Nat) (es : List (Option Addr × Value)) : Prop := ∀ x ∈ es, ∃ c d, HidP W x.1 c ∧ x.2 = .pointer (some d) ∧ HidP W (some d) (c ||| h)
theorem SetsOk.keep {W W' : World} {h : Nat} {es : List (Option Addr × Value)} (hs : SetsOk W h es) (hk : Kept 137 W W') : SetsOk W' h es := fun x hx => by
  obtain ⟨c, d, h1, h2, h3⟩ := hs x hx
  exact ⟨c, d, h1.keep hk, h2, h3.keep hk⟩
theorem SetsOk.keys {W : World} {h : Nat} {es : List (Option Addr × Value)} (hs : SetsOk W h es) : ∀ x ∈ es, ∃ k, HidP W x.1 k := fun x hx => by
  obtain ⟨c, d, h1, -, -⟩ := hs x hx
  exact ⟨c, h1⟩
theorem HidP.one {W : World} {p : Option Addr} {a b : Nat} (h : HidP W p a) (k : HidP W p b) : a = b := by
  obtain ⟨-, ⟨rfl, h1⟩ | ⟨x, rfl, h1⟩⟩ := h
  · obtain ⟨-, ⟨_, h2⟩ | ⟨y, h2, _⟩⟩ := k
    · rw [h1, h2]
    · cases h2
  · obtain ⟨-, ⟨h2, _⟩ | ⟨y, h2, h3⟩⟩ := k
    · cases h2
    · cases h2
      rw [h1] at h3
      injection h3 with h3
      injection h3 with h3
      have := congrArg (fun c => c[0]?) h3
      simp only [nmCells] at this
      simp at this
      omega
theorem SetsOk.get {W : World} {h : Nat} {es : List (Option Addr × Value)} {p : Option Addr} {c : Nat} {v : Value} (hs : SetsOk W h es) (hp : HidP W p c) (hl : lk p es = some v) : ∃ d, v = .pointer (some d) ∧ HidP W (some d) (c ||| h) := by
  obtain ⟨c', d, h1, h2, h3⟩ := hs _ (lk_mem hl)
  have e := h1.one hp
  subst e
  exact ⟨d, h2, h3⟩
theorem Kept.grown {W W' : World} {mb : Nat} {arr : Array MapEntry} {clock : Nat} (hm : W.heap[mb]? = some (.map arr clock)) (hg : W.grownBy W' (some mb)) (t : TypeId) : Kept t W W' := fun b cs fz hb => (hg.block b (lt_of_heap hb) (fun e => by
  injection e with e
  rw [e, hm] at hb
  cases hb)).trans hb
theorem row_keepK {W W' : World} {B e sz n : Nat} {v : Value} {cs : List Value} (h : W.ownsRow B e sz v n cs) (hk : Kept e W W') : W'.ownsRow B e sz v n cs := by
  refine ⟨h.1, ?_⟩
  rcases h.2 with h' | ⟨g, cap, cur, h', h1, h2, h3⟩
  · exact .inl h'
  · exact .inr ⟨g, cap, cur, h', h1, hk g _ _ h2, h3⟩
theorem HRow.kept {W W' : World} {n : Nat} {v : Value} {l : List HT} (h : HRow W n v l) (h1 : Kept 92 W W') (h2 : Kept 137 W W') : HRow W' n v l := by
  obtain ⟨cs, hrow, hcs⟩ := h
  exact ⟨cs, row_keepK hrow h1, hcs.keep h2⟩

set_option maxRecDepth 100000 in
set_option maxHeartbeats 4000000 in
theorem ehide_any (v : Value) (l : List HT) (q : Addr) (h n : Nat) (w : World) (hv : HRow w n v l) (hq : HidP w (some q) h) (hl : l.length ≤ 1000000) (hn : n ≤ w.heap.size) :
    Calls Tryz.prog 65 #[v, .pointer (some q)] w fun e w' => e = .returned (.tuple #[]) ∧ HRow w' n v (Ep.hide l h) ∧ Below n w w' := by
  obtain ⟨ad, cap, rfl, -, -⟩ := hv.hs.form
  obtain ⟨L, hL⟩ : ∃ L, L = l.length := ⟨_, rfl⟩
  rw [← hL] at hl hv ⊢
  have hA : Below w.heap.size w (w.alloc (.map #[] 0)) := (Below.refl _ w).alloc (Nat.le_refl _) _
  have hv1 := hv.below hA
  have hq1 := hq.keep (Kept.of_below hA _)
  have hm1 : MpAt ptrKey (w.alloc (.map #[] 0)) w.heap.size [] := MpAt.new ptrKey w
  have hB1 := hA.mono hn
  have hmm := @run_makeMap Tryz.prog
  have HL := Lib.hid hL
  have HV := Lib.hid hv1
  have HQ := Lib.hid hq1
  have HM := Lib.hid hm1
  have HB1 := Lib.hid hB1
  clear hL hv hq hv1 hq1 hm1 hB1 hA
  go_enter Tryz.func65, Tryz.ntmps65
  go_wp2_with fail
  go_loopw [10] (fun a wr => ∃ (k : Nat) (es : List (Option Addr × Value)), a = .int .i64 k ∧ k ≤ L ∧ HRow wr n (.slice ad L cap) (Ep.hidTo k l h) ∧ MpAt ptrKey wr w.heap.size es ∧ SetsOk wr h es ∧ HidP wr (some q) h ∧ Below n w wr ∧ n ≤ wr.heap.size) (fun a _ => L - (intOf a).toNat)
  case atStart => exact ⟨0, [], rfl, Nat.zero_le _, by rw [Ep.hidTo_zero]; exact HV.out, HM.out, fun x hx => (by cases hx), HQ.out, HB1.out, by simp; omega⟩
  case round =>
    obtain ⟨k, es, rfl, hk, hrow, hmp, hst, hqq, hB, hnr⟩ := hrel
    by_cases hlt : k < L
    · obtain ⟨x, hx⟩ : ∃ x, l[k]? = some x := ⟨_, List.getElem?_eq_getElem (by rw [← HL.out]; exact hlt)⟩
      have hx' := Ep.hidTo_get h hx
      have hset := Ep.hidTo_set h hx
      have hlen := Ep.hidTo_length k l h
      have hat := hs_some (show Hs wr (.slice ad L cap) (Ep.hidTo k l h) from hrow.hs) hx'
      obtain ⟨g1, o, hg, -, -, p, d6, -, hp⟩ := hat
      obtain ⟨g, hg0⟩ : ∃ g, ad = some ⟨g, 0, none⟩ := by
        obtain ⟨cs, hr, -⟩ := hrow
        rcases hr.2 with ⟨h', _⟩ | ⟨g', cap', cur, h', _⟩
        · rw [hg] at h'; cases h'
        · injection h' with h'
          exact ⟨g', h'⟩
      rw [hg0] at hg hrow
      subst hg0
      injection hg with hg
      injection hg with e1 e2
      subst e1 e2
      rw [Nat.zero_add] at d6
      have z1 : (0 : Int) ≤ k := by omega
      have z2 : (k : Int) < L := by omega
      obtain ⟨cur, hgb, hng⟩ := hrow.block
      have hfz : ∀ j, wr.frozen? ⟨g, j, none⟩ = false := fun j => by simp [World.frozen?, hgb]
      have hlook := look_ptr hmp hp hst.keys
      cases hlk : lk p es with
      | some v =>
        obtain ⟨d, rfl, hd⟩ := hst.get hp hlk
        rw [hlk, Option.getD_some] at hlook
        have H1 := Lib.hid (hset ▸ hrow.setHid hx' hd)
        have H2 := Lib.hid (hmp.set (a := ⟨g, k * 8 + 6, none⟩) hgb (.pointer (some d)))
        have H3 := Lib.hid (hst.keep (Kept.set (i := k * 8 + 6) (u := .pointer (some d)) hgb (by decide)))
        have H4 := Lib.hid (hqq.keep (Kept.set (i := k * 8 + 6) (u := .pointer (some d)) hgb (by decide)))
        have H5 := Lib.hid (hB.setCell (p := ⟨g, k * 8 + 6, none⟩) hng (.pointer (some d)))
        clear hrow hmp hst hqq hB hx hx' hset hlen hp hgb hlk hd
        go_wp2_with fail
        go_roundw
        case rel => exact ⟨k + 1, es, by go_num, by omega, H1.out, H2.out, H3.out, H4.out, H5.out, by simp; omega⟩
        case measure => simp [intOf]; omega
      | none =>
        rw [hlk, Option.getD_none] at hlook
        have KE := Lib.hid (eeither_any p (some q) x.hd h wr hp hqq)
        have HROW := Lib.hid hrow
        have HMP := Lib.hid hmp
        have HST := Lib.hid hst
        have HQQ := Lib.hid hqq
        have HB := Lib.hid hB
        have HX := Lib.hid hx'
        have HSET := Lib.hid hset
        have HP := Lib.hid hp
        have HGB := Lib.hid hgb
        have HLK := Lib.hid hlk
        clear hrow hmp hst hqq hB hx hx' hset hlen hp hgb hlk
        go_wp2_with fail
        refine KE.out.mono ?_
        rintro e9 w9 ⟨r, rfl, hr, hne, hb9⟩
        obtain ⟨d, rfl⟩ : ∃ d, r = some d := by
          cases r with
          | none => exact absurd rfl (hne rfl)
          | some d => exact ⟨d, rfl⟩
        have hmp9 := HMP.out.below hb9
        have hst9 := HST.out.keep (Kept.of_below hb9 _)
        have hp9 := HP.out.keep (Kept.of_below hb9 _)
        obtain ⟨W2, u1, u2, u3⟩ := new_ptr hmp9 hp9 hst9.keys HLK.out (.pointer (some d))
        obtain ⟨arr, clock, hma, -⟩ := hmp9
        have k1 := (Kept.of_below hb9 92).trans (Kept.grown hma u3 92)
        have k2 := (Kept.of_below hb9 137).trans (Kept.grown hma u3 137)
        have k3 := Kept.grown hma u3 137
        have hp2 := HP.out.keep k2
        have hr2 := hr.keep k3
        have hst2 : SetsOk W2 h (es ++ [(p, .pointer (some d))]) := fun y hy => by
          rcases List.mem_append.1 hy with hy | hy
          · exact HST.out.keep k2 y hy
          · rw [List.mem_singleton.1 hy]
            exact ⟨_, d, hp2, rfl, hr2⟩
        have hlook2 := look_ptr u2 hp2 hst2.keys
        rw [lk_snoc, HLK.out] at hlook2
        simp only [if_true, Option.getD_some] at hlook2
        have hgb2 := k1 _ _ _ HGB.out
        have hc2 : W2.cell? ⟨g, k * 8 + 6, none⟩ = some (.pointer p) := (World.cell?_of_block (a := ⟨g, k * 8 + 6, none⟩) (hgb2.trans HGB.out.symm)).trans d6
        have hfz2 : ∀ j, W2.frozen? ⟨g, j, none⟩ = false := fun j => by simp [World.frozen?, hgb2]
        have hrow2 := HROW.out.kept k1 k2
        have hqq2 := HQQ.out.keep k2
        have hB9 := HB.out.trans (hb9.mono hnr)
        have hB2 := grown_below hB9 u3 hn (Nat.le_trans hnr hb9.size)
        have hnr2 : n ≤ W2.heap.size := Nat.le_trans (Nat.le_trans hnr hb9.size) u3.size
        have H1 := Lib.hid (HSET.out ▸ hrow2.setHid HX.out hr2)
        have H2 := Lib.hid (u2.set (a := ⟨g, k * 8 + 6, none⟩) hgb2 (.pointer (some d)))
        have H3 := Lib.hid (hst2.keep (Kept.set (i := k * 8 + 6) (u := .pointer (some d)) hgb2 (by decide)))
        have H4 := Lib.hid (hqq2.keep (Kept.set (i := k * 8 + 6) (u := .pointer (some d)) hgb2 (by decide)))
        have H5 := Lib.hid (hB2.setCell (p := ⟨g, k * 8 + 6, none⟩) hng (.pointer (some d)))
        clear hst9 hp9 u2 u3 hma k1 k2 k3 hp2 hr2 hst2 hgb2 hrow2 hqq2 hB9 hB2 hr hne hb9 d6 hfz hlook
        go_wp2_with fail
        go_roundw
        case rel => exact ⟨k + 1, _, by go_num, by omega, H1.out, H2.out, H3.out, H4.out, H5.out, by simp; omega⟩
        case measure => simp [intOf]; omega
    · obtain rfl : k = L := by omega
      have hall := Ep.hidTo_all l h k (by rw [← HL.out]; exact Nat.le_refl _)
      rw [hall] at hrow
      have HR := Lib.hid hrow
      have HB := Lib.hid hB
      clear hrow hmp hst hqq hB hall
      go_wp2_with fail
      go_end0
      exact ⟨rfl, HR.out, HB.out⟩
end Go.Proofs.YtlepnafgcmeimaaGreatDoor

/- Plain: a plan's pieces. -/
namespace Go.Proofs.YtlepnafgcmeimaaGreatDoor
open Mx (M)
open Ep (HT)

theorem Ep.pcs_way (m : M) : ∀ (f i : Nat), ∀ p ∈ Ep.pcs m f i, p.way ≤ 4 ∧ p.par ≤ m.ps.length
  | 0, i, p, h => by simp [Ep.pcs] at h
  | f + 1, i, p, h => by
    unfold Ep.pcs at h
    split at h
    · rcases List.mem_cons.1 h with rfl | h
      · exact ⟨(pieceOf_le m i).2, (pieceOf_le m i).1⟩
      · exact Ep.pcs_way m f _ p h
    · cases h
theorem Ep.pcs_length (m : M) : ∀ (f i : Nat), (Ep.pcs m f i).length ≤ f
  | 0, i => by simp [Ep.pcs]
  | f + 1, i => by
    unfold Ep.pcs
    split
    · have := Ep.pcs_length m f (if (Ep.pieceOf m i).way = 2 then i + 2 else i + 1)
      simp only [List.length_cons]
      omega
    · simp
theorem Ep.pieces_way (m : M) : ∀ p ∈ Ep.pieces m, p.way ≤ 4 ∧ p.par ≤ m.ps.length := Ep.pcs_way m _ _
theorem Ep.pieces_length (m : M) : (Ep.pieces m).length ≤ m.body.length := Ep.pcs_length m _ _
theorem Ep.sl_length (l : List HT) (a b : Nat) : (Ep.sl l a b).length ≤ l.length := by
  unfold Ep.sl
  rw [List.length_take, List.length_drop]
  omega
theorem Ep.shared_some {m : M} {ins : List HT} {cs : List Nat} {raws : List (List HT)} (h : Ep.shared m ins cs = .ok raws) :
    raws.length = (if m.fn then m.ps.length + (if m.va then 1 else 0) else 0) ∧ ∀ x ∈ raws, x.length ≤ ins.length := by
  unfold Ep.shared at h
  cases hf : m.fn with
  | false =>
    rw [hf] at h
    simp only [Bool.not_false, if_true] at h
    injection h with h
    subst h
    exact ⟨rfl, fun x hx => by cases hx⟩
  | true =>
    rw [hf] at h
    rw [if_neg (by decide)] at h
    extract_lets n at h
    clear_value n
    split at h
    · cases h
    · injection h with h
      subst h
      refine ⟨?_, fun x hx => ?_⟩
      · rw [List.length_append, List.length_map, List.length_range]
        cases m.va <;> simp
      · rcases List.mem_append.1 hx with h1 | h1
        · obtain ⟨i, _, rfl⟩ := List.mem_map.1 h1
          exact Ep.sl_length _ _ _
        · cases hv : m.va with
          | false => rw [hv] at h1; simp at h1
          | true =>
            rw [hv] at h1
            simp only [if_true, List.mem_singleton] at h1
            rw [h1]
            split
            · exact Ep.sl_length _ _ _
            · exact Nat.zero_le _
end Go.Proofs.YtlepnafgcmeimaaGreatDoor

/- The expansion in memory: macros by their names, boxes, plans; what keeps it. -/
namespace Go.Proofs.YtlepnafgcmeimaaGreatDoor
open Go.RowKit Go.Shelf
open Ep (HT XS)
open Mx (M)

/-! ### plain -/
theorem Ep.planIx_lt (j : Nat) : ∀ (l : List Nat) (i q : Nat), Ep.planIx j l i = some q → i ≤ q ∧ q < i + l.length
  | [], i, q, h => by cases h
  | a :: r, i, q, h => by
    rw [Ep.planIx] at h
    split at h
    · injection h with h; subst h; simp
    · have := Ep.planIx_lt j r (i + 1) q h; simp; omega
theorem Ep.planIx_snoc (j k : Nat) : ∀ (l : List Nat) (i : Nat), Ep.planIx j (l ++ [k]) i = match Ep.planIx j l i with | some q => some q | none => if k = j then some (i + l.length) else none
  | [], i => rfl
  | a :: r, i => by
    rw [List.cons_append, Ep.planIx, Ep.planIx]
    by_cases h : a = j
    · rw [if_pos h, if_pos h]
    · rw [if_neg h, if_neg h, Ep.planIx_snoc j k r (i + 1), List.length_cons, show i + 1 + r.length = i + (r.length + 1) by omega]
theorem Ep.ixOf_get (s : ByteArray) : ∀ (l : List M) (i j : Nat), Ep.ixOf s l i = some j → i ≤ j ∧ ∃ m, l[j - i]? = some m ∧ m.name = s
  | [], i, j, h => by cases h
  | m :: r, i, j, h => by
    rw [Ep.ixOf] at h
    split at h
    · rename_i hm
      injection h with h; subst h
      exact ⟨Nat.le_refl _, m, by simp, hm⟩
    · obtain ⟨h1, m', h2, h3⟩ := Ep.ixOf_get s r (i + 1) j h
      refine ⟨by omega, m', ?_, h3⟩
      rw [show j - i = (j - (i + 1)) + 1 by omega, List.getElem?_cons_succ]
      exact h2
theorem Ep.ixOf_some {s : ByteArray} {l : List M} {j : Nat} (h : Ep.ixOf s l 0 = some j) : ∃ m, l[j]? = some m ∧ m.name = s := by
  obtain ⟨-, m, h2, h3⟩ := Ep.ixOf_get s l 0 j h
  exact ⟨m, by simpa using h2, h3⟩

/-! ### what stays -/
/-- All but rests, tokens in boxes, and arguments stay. -/
def okS : Obj → Prop
  | .cells _ t _ => t ≠ 88 ∧ t ≠ 54 ∧ t ≠ 92 ∧ t ≠ 142
  | _ => True
def StayX (W W' : World) : Prop := ∀ (b : Nat) (o : Obj), W.heap[b]? = some o → okS o → W'.heap[b]? = some o
theorem StayX.refl (W : World) : StayX W W := fun _ _ h _ => h
theorem StayX.trans {W W1 W' : World} (h : StayX W W1) (k : StayX W1 W') : StayX W W' := fun b o hb ho => k b o (h b o hb ho) ho
theorem StayX.of_below {W W' : World} (h : Below W.heap.size W W') : StayX W W' := fun b _ hb _ => (h.block b (lt_of_heap hb)).trans hb
theorem StayX.of_fr {N n : Nat} {W W' : World} (h : Fr false N n W W') : StayX W W' := fun b o hb ho => h.block b o hb (.inr (by
  cases o with
  | cells cs t fz => exact ⟨fun e => (by cases e), .inl ⟨ho.1, ho.2.1⟩⟩
  | _ => trivial))
theorem StayX.only1 {B : Nat} {W W' : World} {cs : Array Value} {fz : Nat × Nat} {t : TypeId} (h : Only1 B W W') (hB : W.heap[B]? = some (.cells cs t fz)) (ht : t = 92 ∨ t = 142) : StayX W W' := fun b o hb ho => (h b fun e => by
  subst e
  rw [hB] at hb
  cases hb
  rcases ht with rfl | rfl
  · exact ho.2.2.1 rfl
  · exact ho.2.2.2 rfl).trans hb
theorem StayX.kept {W W' : World} (h : StayX W W') {t : TypeId} (h1 : t ≠ 88) (h2 : t ≠ 54) (h3 : t ≠ 92) (h4 : t ≠ 142) : Kept t W W' := fun b _ _ hb => h b _ hb ⟨h1, h2, h3, h4⟩
theorem StayX.drew (W : World) : StayX W W.drew := fun _ _ h _ => h
theorem StayX.drewN (W : World) (k : Nat) : StayX W (W.drewN k) := fun _ _ h _ => h

/-! ### in memory -/
/-- A macro's box, its plan's pointer there. -/
def KnAt (w0 W : World) (b : Nat) (m : M) (q : Option Nat) : Prop :=
  ∃ pv bv pp, W.heap[b]? = some (.cells #[.string m.name, .bool m.fn, pv, .bool m.va, bv, .pointer pp] 85 (0, 0)) ∧ MacV w0 (.agg #[.string m.name, .bool m.fn, pv, .bool m.va, bv]) m ∧ w0.heap.size ≤ b ∧
    ((q = none ∧ pp = none) ∨ ∃ i pb sv uv, q = some i ∧ pp = some ⟨pb, 0, none⟩ ∧ PlW W w0.heap.size pb i sv uv (Ep.pieces m) (Ep.pieces m) (m.ps.length + 1))
theorem PlW.stay {W W' : World} {n0 pb num : Nat} {sv uv : Value} {P U : List Ep.Pc} {k : Nat} (h : PlW W n0 pb num sv uv P U k) (hs : StayX W W') : PlW W' n0 pb num sv uv P U k :=
  h.keep (hs.kept (by decide) (by decide) (by decide) (by decide)) (hs.kept (by decide) (by decide) (by decide) (by decide)) (hs.kept (by decide) (by decide) (by decide) (by decide))
theorem KnAt.stay {w0 W W' : World} {b : Nat} {m : M} {q : Option Nat} (h : KnAt w0 W b m q) (hs : StayX W W') : KnAt w0 W' b m q := by
  obtain ⟨pv, bv, pp, h1, h2, h3, h4⟩ := h
  refine ⟨pv, bv, pp, hs _ _ h1 ⟨by decide, by decide, by decide, by decide⟩, h2, h3, ?_⟩
  rcases h4 with h4 | ⟨i, pb, sv, uv, e1, e2, h5⟩
  · exact .inl h4
  · exact .inr ⟨i, pb, sv, uv, e1, e2, h5.stay hs⟩
/-- What a macro's box holds at least. -/
structure XM (w0 W : World) (xb mb : Nat) (kb : Nat → Nat) (ms : List M) (X : XS) : Prop where
  blk : W.heap[xb]? = some (.cells #[.map (some mb), .int .i64 (X.pl.length : Int), .int .i64 (X.steps : Int)] 81 (0, 0))
  hx : w0.heap.size ≤ xb
  mp : ∃ es, MpAt strKey W mb es ∧ ∀ s, lk s es = (Ep.ixOf s ms 0).map fun j => Value.pointer (some ⟨kb j, 0, none⟩)
  hm : w0.heap.size ≤ mb
  kn : ∀ j m, ms[j]? = some m → Ep.ixOf m.name ms 0 = some j → KnAt w0 W (kb j) m (Ep.planIx j X.pl 0)
  bl : Below w0.heap.size w0 W
  np : X.pl.length ≤ 60
  st : X.steps ≤ 1000
section
variable {w0 W W' : World} {xb mb : Nat} {kb : Nat → Nat} {ms : List M} {X : XS}
theorem XM.stay (h : XM w0 W xb mb kb ms X) (hs : StayX W W') (hb : Below w0.heap.size w0 W') : XM w0 W' xb mb kb ms X := by
  refine ⟨hs _ _ h.blk ⟨by decide, by decide, by decide, by decide⟩, h.hx, ?_, h.hm, fun j m h1 h2 => (h.kn j m h1 h2).stay hs, hb, h.np, h.st⟩
  obtain ⟨es, h1, h2⟩ := h.mp
  refine ⟨es, ?_, h2⟩
  obtain ⟨arr, clock, h3, h4⟩ := h1
  exact ⟨arr, clock, hs _ _ h3 trivial, h4⟩
theorem XM.below (h : XM w0 W xb mb kb ms X) (hb : Below W.heap.size W W') : XM w0 W' xb mb kb ms X := h.stay (StayX.of_below hb) (Below.then h.bl hb)
theorem XM.fr {n : Nat} (h : XM w0 W xb mb kb ms X) (hf : Fr false w0.heap.size n W W') : XM w0 W' xb mb kb ms X := h.stay (StayX.of_fr hf) (h.bl.trans (hf.below h.bl.size))
theorem XM.look (h : XM w0 W xb mb kb ms X) (s : ByteArray) : (Instr.lookup 79 (.map (some mb)) (.string s) false).run Tryz.prog W = .ok (.pointer ((Ep.ixOf s ms 0).map fun j => ⟨kb j, 0, none⟩)) W := by
  obtain ⟨es, h1, h2⟩ := h.mp
  rw [look_str h1 s, h2]
  cases Ep.ixOf s ms 0 <;> rfl
/-- Boxes of two macros are two. -/
theorem XM.inj (h : XM w0 W xb mb kb ms X) {i j : Nat} {m m' : M} (hi : ms[i]? = some m) (hi' : Ep.ixOf m.name ms 0 = some i) (hj : ms[j]? = some m') (hj' : Ep.ixOf m'.name ms 0 = some j) (e : kb i = kb j) : i = j := by
  obtain ⟨_, _, _, h1, -⟩ := h.kn i m hi hi'
  obtain ⟨_, _, _, h2, -⟩ := h.kn j m' hj hj'
  rw [e, h2] at h1
  injection h1 with h1
  injection h1 with h1
  have := congrArg (fun c => c[0]?) h1
  simp at this
  rw [← this, hj'] at hi'
  injection hi' with hi'
  exact hi'.symm
end
end Go.Proofs.YtlepnafgcmeimaaGreatDoor

/- What is proved: what the iterator over a rest tells, round by round. -/
namespace Go.Proofs.YtlepnafgcmeimaaGreatDoor
open Go.RowKit Go.Shelf
open Ep (HT)

attribute [local go_sem] Oper.semAt_some

/-- All up to a block lies as it lay. -/
def KeepL (m : Nat) (W W' : World) : Prop := ∀ k, k < m → W'.heap[k]? = W.heap[k]?
theorem KeepL.refl (m : Nat) (W : World) : KeepL m W W := fun _ _ => rfl
theorem KeepL.trans {m : Nat} {A B C : World} (h : KeepL m A B) (k : KeepL m B C) : KeepL m A C := fun i hi => (k i hi).trans (h i hi)
theorem KeepL.put {m : Nat} {w : World} (hm : m ≤ w.heap.size) (W : World) (l : Nat) (o o' : Obj) (hl : w.heap.size ≤ l) (_ : W.heap[l]? = some o) (_ : o.isCells = false) (_ : o.isWalk = false) : KeepL m W (W.putObj l o') :=
  fun _ _ => World.putObj_heap_other (by omega)
theorem KeepL.cell {m : Nat} {W W' : World} (h : KeepL m W W') {a : Addr} {v : Value} (hc : W.cell? a = some v) (ha : a.block < m) : W'.cell? a = some v := (World.cell?_of_block (a := a) (h a.block ha)).trans hc
theorem KeepL.kept {W W' : World} (h : KeepL W.heap.size W W') (t : TypeId) : Kept t W W' := fun b _ _ hb => (h b (Array.getElem?_eq_some_iff.1 hb).1).trans hb
theorem Rs.keepL {W W' : World} {n lb : Nat} {lv : Value} {vs : List Value} {st : List (List HT)} {b : Bool} (h : Rs W n lb lv vs st b) (hk : KeepL W.heap.size W W') : Rs W' n lb lv vs st b :=
  h.keep (fun k hk' => hk k (by rcases hk' with rfl | hk'; exact h.lt; exact (h.row.lt k hk').2)) (hk.kept _) (hk.kept _)

/-- The lists by their number, from the last one on. -/
theorem Ls.get {W : World} : ∀ {st : List (List HT)} {vs : List Value}, Ls W st vs → ∀ (j : Nat) (l : List HT), st[j]? = some l → ∃ v, vs[st.length - 1 - j]? = some v ∧ Hs W v l ∧ l ≠ []
  | [], _, _, j, l, hj => by simp at hj
  | l0 :: r, vs, ⟨us, v, e, hv, hne, h⟩, 0, l, hj => by
    simp at hj; subst hj
    refine ⟨v, ?_, hv, hne⟩
    rw [e, List.getElem?_append_right (by rw [h.length]; simp), h.length]
    simp
  | l0 :: r, vs, ⟨us, v, e, hv, hne, h⟩, j + 1, l, hj => by
    simp at hj
    obtain ⟨u, hu, h2⟩ := Ls.get h j l hj
    refine ⟨u, ?_, h2⟩
    have hlt := (List.getElem?_eq_some_iff.1 hu).1
    rw [e, show (l0 :: r).length - 1 - (j + 1) = r.length - 1 - j by simp; omega, List.getElem?_append_left hlt]
    exact hu
theorem Rs.get {W : World} {n lb : Nat} {lv : Value} {vs : List Value} {st : List (List HT)} {b : Bool} {lad : Option Addr} {lcap : Nat} (h : Rs W n lb lv vs st b) (hlv : lv = .slice lad vs.length lcap) {j : Nat} {x : List HT} (hj : st[j]? = some x) :
    ∃ g ad cap, lad = some ⟨g, 0, none⟩ ∧ W.cell? ⟨g, st.length - 1 - j, none⟩ = some (.slice ad x.length cap) ∧ Hs W (.slice ad x.length cap) x ∧ x ≠ [] := by
  obtain ⟨v, hv, h2, h3⟩ := h.ls.get j x hj
  obtain ⟨ad, cap, rfl, h4, h5⟩ := h2.form
  have hrow := h.row
  have hlt := (List.getElem?_eq_some_iff.1 hv).1
  rcases hrow.2 with ⟨_, h0⟩ | ⟨g, cap', cur, h', _, hg, _⟩
  · omega
  · have hc := hrow.cells (g := g) (by rw [h']; rfl) _ _ hv
    rw [add_none, Nat.zero_add] at hc
    rw [hlv] at h'
    injection h' with h1
    exact ⟨g, ad, cap, h1, hc, h2, h3⟩
theorem Ep.flat_cons (l : List HT) (st : List (List HT)) : Ep.flat (l :: st) = Ep.bareH l ++ Ep.flat st := by simp [Ep.flat, Ep.bareH]
/-- What has come: the lists ahead, and so many tokens of this one. -/
def Came (st : List (List HT)) (j k : Nat) (pre : List K) : Prop := pre = Ep.flat (st.take j) ++ Ep.bareH ((st.getD j []).take k)
theorem came_end {st : List (List HT)} {pre : List K} (h : Came st st.length 0 pre) : pre = Ep.flat st := by
  unfold Came at h
  rw [h, List.take_length]
  simp [Ep.bareH]
theorem came_step {st : List (List HT)} {j k : Nat} {pre : List K} {l : List HT} {x : HT} (h : Came st j k pre) (hl : st[j]? = some l) (hx : l[k]? = some x) :
    Came st j (k + 1) (pre ++ [x.t]) ∧ pre ++ [x.t] <+: Ep.flat st ∧ pre.length < (Ep.flat st).length := by
  have hj := (List.getElem?_eq_some_iff.1 hl).1
  have hk := (List.getElem?_eq_some_iff.1 hx).1
  have e1 : st.getD j [] = l := by rw [List.getD_eq_getElem?_getD, hl]; rfl
  have e2 : l.take (k + 1) = l.take k ++ [x] := by
    rw [List.take_succ_eq_append_getElem hk, (List.getElem?_eq_some_iff.1 hx).2]
  have hc : Came st j (k + 1) (pre ++ [x.t]) := by
    unfold Came at h ⊢
    rw [h, e1, e2]
    simp [Ep.bareH]
  have hp : pre ++ [x.t] <+: Ep.flat st := by
    unfold Came at hc
    rw [hc, e1]
    have e3 : Ep.flat st = Ep.flat (st.take j) ++ (Ep.bareH l ++ Ep.flat (st.drop (j + 1))) := by
      conv => lhs; rw [← List.take_append_drop j st, List.drop_eq_getElem_cons hj, (List.getElem?_eq_some_iff.1 hl).2]
      simp [Ep.flat, Ep.bareH]
    rw [e3]
    refine (List.prefix_append_right_inj _).2 ?_
    refine List.IsPrefix.trans ?_ (List.prefix_append _ _)
    unfold Ep.bareH
    rw [List.map_take]
    exact List.take_prefix _ _
  refine ⟨hc, hp, ?_⟩
  have := hp.length_le
  simp at this
  omega
theorem came_next {st : List (List HT)} {j : Nat} {pre : List K} {l : List HT} (h : Came st j l.length pre) (hl : st[j]? = some l) : Came st (j + 1) 0 pre := by
  have hj := (List.getElem?_eq_some_iff.1 hl).1
  have e1 : st.getD j [] = l := by rw [List.getD_eq_getElem?_getD, hl]; rfl
  unfold Came at h ⊢
  rw [h, e1, List.take_length, List.take_succ_eq_append_getElem hj, (List.getElem?_eq_some_iff.1 hl).2]
  simp [Ep.flat, Ep.bareH]

set_option maxRecDepth 100000 in
set_option maxHeartbeats 4000000 in
theorem all1_in (n : Nat) (hn : 1 ≤ n) (l Bn n0 lb : Nat) (lv : Value) (vs : List Value) (st : List (List HT)) (b : Bool) (w : World) (h : Rs w n0 lb lv vs st b) (hbx : w.cell? ⟨Bn, 0, none⟩ = some (.pointer (some ⟨lb, 0, none⟩)))
    (hst : st.length ≤ 1000000) (hll : ∀ x ∈ st, x.length ≤ 1000000) (J Jx : List K → World → Prop)
    (hY : ∀ pre x W, J pre W → pre.length < (Ep.flat st).length → YieldAt Fence.wide (n - 1) Tryz.prog l #[kAgg x] W fun e W' =>
      (e = .returned (.bool true) ∧ J (pre ++ [x]) W' ∧ KeepL w.heap.size W W') ∨ (e = .returned (.bool false) ∧ Jx (pre ++ [x]) W'))
    (W : World) (hW : KeepL w.heap.size w W) (h0 : J [] W) :
    CallsIn Fence.wide n Tryz.prog 77 #[.func (.yield l) #[] #[], .pointer (some ⟨Bn, 0, none⟩)] W fun e W' => (∃ v, e = .returned v) ∧
      ((∃ ys, ys = Ep.flat st ∧ J ys W') ∨ (∃ pre, pre <+: Ep.flat st ∧ Jx pre W')) := by
  have hBn := lt_of_cell hbx
  have hlb := h.lt
  have c0 := h.c0
  obtain ⟨lad, lcap, hlv⟩ : ∃ a c, lv = .slice a vs.length c := by
    rcases h.row.2 with ⟨h', h0⟩ | ⟨g, cap, cur, h', _⟩
    · exact ⟨_, _, h'.trans (by rw [h0])⟩
    · exact ⟨_, _, h'⟩
  have hget := Lib.hid (fun (j : Nat) (x : List HT) (hj : st[j]? = some x) => h.get hlv hj)
  have hU := h.ls.length
  obtain ⟨U, hU'⟩ : ∃ U, U = st.length := ⟨_, rfl⟩
  rw [← hU'] at hU hst hget
  rw [hU] at hlv
  subst hlv
  have HU := Lib.hid hU'
  have HLL := Lib.hid hll
  clear h hU hU' hll
  have z0 : IntKind.i64.wrap ((U : Int) - 1) = (U : Int) - 1 := IntWalk.i64_in _ (by omega)
  refine callsIn_of_wp Tryz.func77 rfl trivial ?_ rfl
  simp only [Tryz.ntmps77, List.size_toArray, List.length_cons, List.length_nil, Nat.reduceAdd, Nat.reduceSub, Array.replicate_succ, Array.replicate_zero, List.push_toArray, List.append_toArray, List.nil_append, List.cons_append]
  have b1 := hW.cell hbx hBn
  have b2 := hW.cell c0 hlb
  gi_wp2_with fail
  clear b1 b2
  gi_loopw [3] (fun p wr => ∃ (j : Nat) (pre : List K), p = .int .i64 ((U : Int) - 1 - j) ∧ j ≤ U ∧ Came st j 0 pre ∧ KeepL w.heap.size w wr ∧ J pre wr) (fun p _ => (intOf p + 1).toNat)
  case atStart => exact ⟨0, [], by simp, Nat.zero_le _, by simp [Came, Ep.flat, Ep.bareH], hW, h0⟩
  case round =>
    obtain ⟨j, pre, rfl, hj, hc, hk, hJ⟩ := hrel
    obtain ⟨Wo, rfl⟩ : ∃ Wo, Wo = wr := ⟨_, rfl⟩
    by_cases hlt : j < U
    · obtain ⟨x, hx⟩ : ∃ x, st[j]? = some x := ⟨_, List.getElem?_eq_getElem (by rw [← HU.out]; exact hlt)⟩
      obtain ⟨g, ad, cap, rfl, hcg, hhs, hne⟩ := hget.out j x hx
      have hgl := lt_of_cell hcg
      have b1 := hk.cell hbx hBn
      have b2 := hk.cell c0 hlb
      have b3 := hk.cell hcg hgl
      have hxl := HLL.out x (List.mem_of_getElem? hx)
      obtain ⟨L, hL⟩ : ∃ L, L = x.length := ⟨_, rfl⟩
      rw [← hL] at hhs hxl hcg b3
      have y1 : (0 : Int) ≤ (U : Int) - 1 - j := by omega
      have y2 : (U : Int) - 1 - j < U := by omega
      have y3 : ((U : Int) - 1 - j).toNat = U - 1 - j := by omega
      have HL := Lib.hid hL
      have HX := Lib.hid hx
      have HHS := Lib.hid hhs
      have HC := Lib.hid hc
      have HK := Lib.hid hk
      have HJ := Lib.hid hJ
      clear hL hx hhs hc hk hJ
      gi_wp2_with fail
      clear b1 b2 b3
      gi_loopw [23] (fun q wi => ∃ (k : Nat) (pre' : List K), q = .int .i64 k ∧ k ≤ L ∧ Came st j k pre' ∧ KeepL w.heap.size w wi ∧ J pre' wi) (fun q _ => L - (intOf q).toNat)
      case atStart => exact ⟨0, pre, rfl, Nat.zero_le _, HC.out, HK.out, HJ.out⟩
      case round =>
        obtain ⟨k, pre', rfl, hkL, hc, hk, hJ⟩ := hrel
        by_cases hlk : k < L
        · obtain ⟨y, hy⟩ : ∃ y, x[k]? = some y := ⟨_, List.getElem?_eq_getElem (by rw [← HL.out]; exact hlk)⟩
          obtain ⟨hc2, hpre, hlen⟩ := came_step hc HX.out hy
          obtain ⟨gv, ov, rfl, -, hkat, -⟩ := hs_some HHS.out hy
          have hgv := lt_of_cell hkat.1
          have hkat2 := hkat.kept (hk gv hgv)
          obtain ⟨fn, tmps, assign, body, hyy, hR⟩ := hY pre' y.t wr hJ hlen
          have b1 := hk.cell hbx hBn
          have b2 := hk.cell c0 hlb
          have b3 := hk.cell hcg hgl
          obtain ⟨⟨kd, tx, f, fr, en, bl⟩, hd, mk⟩ := y
          dsimp only [kAgg] at hyy hR
          obtain ⟨d0, d1, d2, d3, d4, d5⟩ := hkat2
          dsimp only at d0 d1 d2 d3 d4 d5
          have x1 : (0 : Int) ≤ k := by omega
          have x2 : (k : Int) < L := by omega
          have HC2 := Lib.hid hc2
          have HPre := Lib.hid hpre
          have HK2 := Lib.hid hk
          clear hc hc2 hpre hkat hk hJ hy
          gi_wp2_with fail
          refine hR.mono ?_
          rintro e W3 (⟨rfl, hJ3, hk3⟩ | ⟨rfl, hJx3⟩)
          · have hk4 := HK2.out.trans hk3
            have HK4 := Lib.hid hk4
            clear b1 b2 b3 d0 d1 d2 d3 d4 d5 hk3 hk4
            gi_wp2_with fail
            go_roundw
            case rel => exact ⟨k + 1, _, by go_num, by omega, HC2.out, HK4.out, hJ3⟩
            case measure => simp [intOf]; omega
          · clear b1 b2 b3 d0 d1 d2 d3 d4 d5
            gi_wp2_with fail
            refine bodyPost_ret (results_none rfl _ _ _) rfl ?_
            exact ⟨⟨_, rfl⟩, .inr ⟨_, HPre.out, hJx3⟩⟩
        · obtain rfl : k = L := by omega
          have hc3 := came_next (l := x) (by rw [← HL.out]; exact hc) HX.out
          have HC3 := Lib.hid hc3
          have HK3 := Lib.hid hk
          clear hc hc3 hk
          have z9 : IntKind.i64.wrap ((U : Int) - 1 - j - 1) = (U : Int) - 1 - j - 1 := IntWalk.i64_in _ (by omega)
          gi_wp2_with fail
          go_roundw
          case rel => exact ⟨j + 1, pre', by congr 1; omega, by omega, HC3.out, HK3.out, hJ⟩
          case measure => simp [intOf]; omega
    · obtain rfl : j = U := by omega
      have hfe := came_end (st := st) (pre := pre) (by rw [← HU.out]; exact hc)
      have HF := Lib.hid hfe
      have y0 : ((j : Int) - 1 - j) = -1 := by omega
      have y1 : ¬ (0 : Int) ≤ (j : Int) - 1 - j := by omega
      rw [y0]
      clear hc hk hfe y0 y1
      gi_wp2_with fail
      go_end0
      exact ⟨⟨_, rfl⟩, .inl ⟨pre, HF.out, hJ⟩⟩
end Go.Proofs.YtlepnafgcmeimaaGreatDoor

/- What is proved: cuts of a rest's tokens. -/
namespace Go.Proofs.YtlepnafgcmeimaaGreatDoor
open Go.RowKit Go.Shelf
open Ep (HT)
open Mx (isP LP RP CM)

attribute [local go_sem] Oper.semAt_some

set_option maxHeartbeats 1000000 in
theorem eall_in (n lb : Nat) (w : World) :
    CallsIn Fence.wide n Tryz.prog 59 #[.pointer (some ⟨lb, 0, none⟩)] w fun e w' => e = .returned (.func (.func 77) #[] #[.pointer (some ⟨w.heap.size, 0, none⟩)]) ∧ w' = w.alloc (.cells #[.pointer (some ⟨lb, 0, none⟩)] 97) := by
  refine callsIn_of_wp Tryz.func59 rfl trivial ?_ rfl
  simp only [Tryz.ntmps59, List.size_toArray, List.length_cons, List.length_nil, Nat.reduceAdd, Nat.reduceSub, Array.replicate_succ, Array.replicate_zero, List.push_toArray, List.append_toArray, List.nil_append, List.cons_append]
  gi_wp2
  go_ret
  exact ⟨rfl, rfl⟩
theorem eall_any (lb : Nat) (w : World) : Calls Tryz.prog 59 #[.pointer (some ⟨lb, 0, none⟩)] w fun e w' => e = .returned (.func (.func 77) #[] #[.pointer (some ⟨w.heap.size, 0, none⟩)]) ∧ w' = w.alloc (.cells #[.pointer (some ⟨lb, 0, none⟩)] 97) :=
  callsIn_wide.1 (eall_in 3 lb w)
theorem all_stops (n : Nat) (hn : 1 ≤ n) (Bn n0 lb : Nat) (lv : Value) (vs : List Value) (st : List (List HT)) (b : Bool) (w : World) (h : Rs w n0 lb lv vs st b) (hbx : w.cell? ⟨Bn, 0, none⟩ = some (.pointer (some ⟨lb, 0, none⟩)))
    (hst : st.length ≤ 1000000) (hll : ∀ x ∈ st, x.length ≤ 1000000) :
    SeqStopsK Fence.wide n Tryz.prog 77 #[.pointer (some ⟨Bn, 0, none⟩)] (fun x : K => #[kAgg x]) (KeepL w.heap.size) (fun ys => ys = Ep.flat st) (fun pre => pre <+: Ep.flat st) (Ep.flat st).length w := fun l J Jx W hW _ _ hY h0 =>
  all1_in n hn l Bn n0 lb lv vs st b w h hbx hst hll J Jx hY W (fun k hk => hW.block k hk) h0

/-! ### signs, plainly -/
/-- What is at hand behind a token: how many brackets are open, and the places; or it is told. -/
def cutStep (i d : Nat) (out : List Nat) (t : K) : Option (Nat × List Nat) :=
  if isP t LP then some (d + 1, if d = 0 then out ++ [i] else out)
  else if d = 0 then none
  else if isP t RP then (if d = 1 then none else some (d - 1, out))
  else if d = 1 && isP t CM then some (d, out ++ [i])
  else some (d, out)
def cutEnd (i d : Nat) (out : List Nat) : Option (List Nat) := if d = 0 then none else some (out ++ [i])
theorem cuts_step (i d : Nat) (out : List Nat) (t : K) (r : List K) :
    Ep.cuts (t :: r) i d out = match cutStep i d out t with | some (d', out') => Ep.cuts r (i + 1) d' out' | none => cutEnd i d out := by
  rw [Ep.cuts]
  unfold cutStep cutEnd
  by_cases h1 : isP t LP = true
  · simp [h1]
  · by_cases h2 : d = 0
    · simp [h1, h2]
    · by_cases h3 : isP t RP = true
      · by_cases h4 : d = 1
        · simp [h1, h3, h4]
        · simp [h1, h2, h3, h4]
      · by_cases h5 : (d = 1 && isP t CM) = true
        · simp only [h1, h2, h3, h5]
          simp
        · simp only [h1, h2, h3, h5]
          simp
/-- What is at hand behind these tokens. -/
def CutSt (pre : List K) (d : Nat) (out : List Nat) : Prop := ∀ r, Ep.cuts (pre ++ r) 0 0 [] = Ep.cuts r pre.length d out
theorem cutSt_nil : CutSt [] 0 [] := fun _ => rfl
theorem CutSt.snoc {pre : List K} {d d' : Nat} {out out' : List Nat} {t : K} (h : CutSt pre d out) (hs : cutStep pre.length d out t = some (d', out')) : CutSt (pre ++ [t]) d' out' := fun r => by
  rw [List.append_assoc, List.singleton_append, h, cuts_step, hs, List.length_append, List.length_singleton]
theorem CutSt.stop {pre : List K} {d : Nat} {out : List Nat} {t : K} (h : CutSt pre d out) (hs : cutStep pre.length d out t = none) (r : List K) : Ep.cuts (pre ++ [t] ++ r) 0 0 [] = cutEnd pre.length d out := by
  rw [List.append_assoc, List.singleton_append, h, cuts_step, hs]
theorem CutSt.done {pre : List K} {d : Nat} {out : List Nat} (h : CutSt pre d out) : Ep.cuts pre 0 0 [] = none := by
  have := h []
  rw [List.append_nil] at this
  rw [this]
  rfl
theorem cutStep_len {i d : Nat} {out : List Nat} {t : K} {d' : Nat} {out' : List Nat} (h : cutStep i d out t = some (d', out')) (h1 : out.length ≤ i) (h2 : d ≤ i) : out'.length ≤ i + 1 ∧ d' ≤ i + 1 := by
  unfold cutStep at h
  by_cases c1 : isP t LP = true
  · rw [if_pos c1] at h
    injection h with h; injection h with h3 h4
    subst h3 h4
    refine ⟨?_, by omega⟩
    split
    · simp; omega
    · omega
  · rw [if_neg c1] at h
    by_cases c2 : d = 0
    · rw [if_pos c2] at h; cases h
    · rw [if_neg c2] at h
      by_cases c3 : isP t RP = true
      · rw [if_pos c3] at h
        by_cases c4 : d = 1
        · rw [if_pos c4] at h; cases h
        · rw [if_neg c4] at h
          injection h with h; injection h with h3 h4
          subst h3 h4
          omega
      · rw [if_neg c3] at h
        by_cases c5 : (d = 1 && isP t CM) = true
        · rw [if_pos c5] at h
          injection h with h; injection h with h3 h4
          subst h3 h4
          simp; omega
        · rw [if_neg c5] at h
          injection h with h; injection h with h3 h4
          subst h3 h4
          omega

/-! ### ints -/
def intsV (l : List Nat) : List Value := l.map fun (n : Nat) => .int .i64 (n : Int)
theorem intsV_append (a b : List Nat) : intsV (a ++ b) = intsV a ++ intsV b := List.map_append
theorem info3 : (Tryz.prog.info? 3).map (fun i => (i.zero, i.size, i.bytes)) = some (some (.int .i64 0), 1, 8) := by kernel_rfl
/-- A row of ints. -/
def IRow (W : World) (B : Nat) (v : Value) (l : List Nat) : Prop := W.ownsRow B 3 1 v l.length (intsV l)
/-- What is at hand between two rounds. -/
def CutI (n0 B2 B3 B4 B5 : Nat) (pre : List K) (W : World) : Prop :=
  ∃ d out u, CutSt pre d out ∧ out.length ≤ pre.length ∧ d ≤ pre.length ∧ Boxed W B2 115 (.slice none 0 0) ∧ Boxed W B3 115 u ∧ IRow W n0 u out ∧ Boxed W B4 3 (.int .i64 pre.length) ∧ Boxed W B5 3 (.int .i64 d)
/-- What is at hand where it is told. -/
def CutX (n0 B2 : Nat) (pre : List K) (W : World) : Prop :=
  ∃ res u, (∀ r, Ep.cuts (pre ++ r) 0 0 [] = res) ∧ Boxed W B2 115 u ∧ (match res with | none => u = .slice none 0 0 | some out => IRow W n0 u out ∧ u ≠ .slice none 0 0)
theorem row_off {W : World} {B e sz n : Nat} {v : Value} {xs : List Value} {W' : World} {row : Option Nat} (h : W.ownsRow B e sz v n xs) (hg : W.grownBy W' row) (hr : ∀ r, row = some r → ∃ o : Obj, W.heap[r]? = some o ∧ o.isCells = false) : W'.ownsRow B e sz v n xs := by
  refine h.kept hg ?_
  rcases h.2 with ⟨rfl, _⟩ | ⟨g, cap, cur, rfl, _, hgb, _⟩
  · exact .inl rfl
  · refine .inr fun e' => ?_
    obtain ⟨o, ho, hc⟩ := hr g (by simpa [Value.ownBlock] using e'.symm)
    rw [hgb] at ho; cases ho; cases hc
theorem box_off {W W' : World} {row : Option Nat} {B : Nat} {t : TypeId} {z : Value} (hb : Boxed W B t z) (hg : W.grownBy W' row) (hr : ∀ r, row = some r → ∃ o : Obj, W.heap[r]? = some o ∧ o.isCells = false) : Boxed W' B t z :=
  hb.kept hg fun e => by
    obtain ⟨o, ho, hc⟩ := hr _ e.symm
    rw [show W.heap[_]? = _ from hb] at ho; cases ho; cases hc
theorem cutI_own (n0 B2 B3 B4 B5 : Nat) : Own (fun (pre : List K) W => CutI n0 B2 B3 B4 B5 pre W) := by
  rintro s X Y row ⟨d, out, u, h1, h2, h2', h3, h4, h5, h6, h7⟩ hg hr
  exact ⟨d, out, u, h1, h2, h2', box_off h3 hg hr, box_off h4 hg hr, row_off h5 hg hr, box_off h6 hg hr, box_off h7 hg hr⟩
theorem cutX_own (n0 B2 : Nat) : Own (fun (pre : List K) W => CutX n0 B2 pre W) := by
  rintro s X Y row ⟨res, u, h1, h3, h4⟩ hg hr
  refine ⟨res, u, h1, box_off h3 hg hr, ?_⟩
  cases res with
  | none => exact h4
  | some out => exact ⟨row_off h4.1 hg hr, h4.2⟩
end Go.Proofs.YtlepnafgcmeimaaGreatDoor

/- What is proved: cuts of a rest's tokens: the walk. -/
namespace Go.Proofs.YtlepnafgcmeimaaGreatDoor
open Go.RowKit Go.Shelf
open Ep (HT)
open Mx (isP LP RP CM)

attribute [local go_sem] Oper.semAt_some

/-- A token in a box. -/
def BoxK (W : World) (B : Nat) (x : K) : Prop := W.heap[B]? = some (.cells #[.int .i64 x.kind, .string x.text, .int .i64 x.file, .int .i64 x.fr, .int .i64 x.en, .bool x.bl] 30 (0, 0))
theorem boxK_own (B : Nat) (x : K) : Own (fun (_ : Unit) W => BoxK W B x) := fun _ X _ _ hs hg hrow =>
  (hg.block B (lt_of_heap hs) (fun e' => by obtain ⟨o, ho, hc⟩ := hrow B e'.symm; rw [show X.heap[B]? = _ from hs] at ho; cases ho; cases hc)).trans hs
def CutsPost (n0 : Nat) (res : Option (List Nat)) (w : World) (e : Ending) (W' : World) : Prop :=
  ∃ u, e = .returned u ∧ (match res with | none => u = .slice none 0 0 | some out => IRow W' n0 u out ∧ u ≠ .slice none 0 0) ∧ Below n0 w W'

theorem box_below {W W' : World} {B : Nat} {t : TypeId} {v : Value} (h : Boxed W B t v) (hb : Below W.heap.size W W') : Boxed W' B t v := (hb.block B h.lt).trans h
theorem keepsO_below {W W' : World} (h : Below W.heap.size W W') : KeepsOthers W W' := ⟨h.size, fun k _ hk _ => (h.block k (Array.getElem?_eq_some_iff.1 hk).1).trans hk⟩
theorem irow_base {W : World} {B B' : Nat} {v : Value} {l : List Nat} (h : IRow W B v l) (hb : B' ≤ B) : IRow W B' v l := by
  refine ⟨h.1, ?_⟩
  rcases h.2 with h' | ⟨g, cap, cur, h', h1, h2, h3⟩
  · exact .inl h'
  · exact .inr ⟨g, cap, cur, h', Nat.le_trans hb h1, h2, h3⟩
/-- Within a round: the boxes of the brackets' number, the place, the places, and the token. -/
structure Cur (W X : World) (n0 Bx : Nat) (p : Nat) (x : K) (d : Nat) (out : List Nat) (u : Value) : Prop where
  b2 : Boxed X n0 115 (.slice none 0 0)
  b3 : Boxed X (n0 + 1) 115 u
  row : IRow X (n0 + 4) u out
  b4 : Boxed X (n0 + 2) 3 (.int .i64 p)
  b5 : Boxed X (n0 + 3) 3 (.int .i64 d)
  bx : BoxK X Bx x
  hx : n0 + 4 ≤ Bx
  ko : KeepsOthers W X
  bl : Below n0 W X
section
variable {W X Y : World} {n0 Bx p d : Nat} {x : K} {out : List Nat} {u : Value}
theorem Cur.lt (h : Cur W X n0 Bx p x d out u) : n0 + 4 ≤ X.heap.size := by have := lt_of_heap h.bx; have := h.hx; omega
theorem Cur.call (h : Cur W X n0 Bx p x d out u) (hb : Below X.heap.size X Y) : Cur W Y n0 Bx p x d out u :=
  ⟨box_below h.b2 hb, box_below h.b3 hb, row_below h.row hb, box_below h.b4 hb, box_below h.b5 hb, (hb.block Bx (lt_of_heap h.bx)).trans h.bx, h.hx, h.ko.trans (keepsO_below hb), h.bl.trans (hb.mono (by have := h.lt; omega))⟩
theorem Cur.setD (h : Cur W X n0 Bx p x d out u) (d' : Nat) (z : Int) (hz : z = d') : Cur W (X.setCell ⟨n0 + 3, 0, none⟩ (.int .i64 z)) n0 Bx p x d' out u := by
  subst hz
  exact ⟨h.b2.other (by omega) _, h.b3.other (by omega) _, ownsRow_setCell_below h.row (by show n0 + 3 < n0 + 4; omega) _, h.b4.other (by omega) _, h.b5.set _, (heap_setCell_other X ⟨n0 + 3, 0, none⟩ Bx _ (by have := h.hx; show Bx ≠ n0 + 3; omega)).trans h.bx, h.hx, h.ko.trans (KeepsOthers.setCell _ _ _), h.bl.setCell (by show n0 ≤ n0 + 3; omega) _⟩
theorem Cur.app {w2 : World} {tmp : Obj} {v' : Value} {k : Nat} (h : Cur W X n0 Bx p x d out u) (hown : w2.ownsRow (n0 + 4) 3 1 v' (out.length + 1) (intsV out ++ [.int .i64 k])) (hgrow : (X.alloc tmp).grownBy w2 u.ownBlock) :
    Cur W (w2.setCell ⟨n0 + 1, 0, none⟩ v') n0 Bx p x d (out ++ [k]) v' ∧ w2.frozen? ⟨n0 + 1, 0, none⟩ = false ∧ w2.cell? ⟨n0 + 1, 0, none⟩ = some u := by
  have hlt := h.lt
  have hk : ∀ b, b < n0 + 4 → some b ≠ u.ownBlock := fun b hb e => by have := (h.row.lt b e.symm).1; omega
  have hx : some Bx ≠ u.ownBlock := fun e => by
    have hr := h.row
    rcases hr.2 with ⟨h', _⟩ | ⟨g', cap', cur, h', _, h2', _⟩
    · rw [h'] at e; cases e
    · rw [h'] at e
      simp only [Value.ownBlock, Option.some.injEq] at e
      rw [← e, show X.heap[Bx]? = _ from h.bx] at h2'
      injection h2' with h2'
      injection h2' with _ h3 _
      exact absurd h3 (by decide)
  have b2 := (h.b2.alloc tmp).kept hgrow (hk _ (by omega))
  have b3 := (h.b3.alloc tmp).kept hgrow (hk _ (by omega))
  have b4 := (h.b4.alloc tmp).kept hgrow (hk _ (by omega))
  have b5 := (h.b5.alloc tmp).kept hgrow (hk _ (by omega))
  have bx : BoxK w2 Bx x := (hgrow.block Bx (by simp; have := lt_of_heap h.bx; omega) hx).trans ((Below.heap_alloc X tmp Bx (lt_of_heap h.bx)).trans h.bx)
  have hap := Boxed.appended (n₀ := n0) h.b3 (by decide) (irow_base h.row (by omega)) (by omega) (by omega) (irow_base (l := out ++ [k]) (B := n0 + 4) (B' := n0) (v := v') (W := w2) (by unfold IRow; rw [List.length_append, intsV_append]; exact hown) (by omega)) hgrow
  refine ⟨⟨b2.other (by omega) _, b3.set _, ?_, b4.other (by omega) _, b5.other (by omega) _, (heap_setCell_other w2 ⟨n0 + 1, 0, none⟩ Bx _ (by have := h.hx; show Bx ≠ n0 + 1; omega)).trans bx, h.hx, h.ko.trans hap.2.2.2.1, h.bl.trans hap.2.2.2.2⟩, b3.frozen, b3.cell⟩
  unfold IRow
  rw [List.length_append, intsV_append]
  exact ownsRow_setCell_below hown (by show n0 + 1 < n0 + 4; omega) _
theorem Cur.ret {w2 : World} {tmp : Obj} {v' : Value} {k : Nat} (h : Cur W X n0 Bx p x d out u) (hown : w2.ownsRow (n0 + 4) 3 1 v' (out.length + 1) (intsV out ++ [.int .i64 k])) (hgrow : (X.alloc tmp).grownBy w2 u.ownBlock) :
    (w2.cell? ⟨n0, 0, none⟩ = some (.slice none 0 0) ∧ w2.frozen? ⟨n0, 0, none⟩ = false) ∧ KeepsOthers W (w2.setCell ⟨n0, 0, none⟩ v') ∧ Below n0 W (w2.setCell ⟨n0, 0, none⟩ v') ∧ Boxed (w2.setCell ⟨n0, 0, none⟩ v') n0 115 v' ∧ IRow (w2.setCell ⟨n0, 0, none⟩ v') (n0 + 4) v' (out ++ [k]) := by
  have hlt := h.lt
  have hk : ∀ b, b < n0 + 4 → some b ≠ u.ownBlock := fun b hb e => by have := (h.row.lt b e.symm).1; omega
  have b2 := (h.b2.alloc tmp).kept hgrow (hk _ (by omega))
  have kg : KeepsOthers (X.alloc tmp) w2 := KeepsOthers.of_grownBy hgrow fun j o e hj => by
    rcases (h.row.alloc tmp).2 with ⟨h', _⟩ | ⟨g', cap', cur, h', _, h2', _⟩
    · rw [h'] at e; cases e
    · rw [h'] at e
      simp only [Value.ownBlock, Option.some.injEq] at e
      rw [← e, h2'] at hj
      cases hj; rfl
  refine ⟨⟨b2.cell, b2.frozen⟩, ((h.ko.trans (KeepsOthers.alloc _ _)).trans kg).trans (KeepsOthers.setCell _ _ _), ?_, b2.set _, ?_⟩
  · exact ((h.bl.alloc (by omega) tmp).grown hgrow (by simp; omega) (fun j e => by have := (h.row.lt j e).1; omega)).setCell (by show n0 ≤ n0; omega) _
  · unfold IRow
    rw [List.length_append, intsV_append]
    exact ownsRow_setCell_below hown (by show n0 < n0 + 4; omega) _
theorem Cur.end {w0 : World} {pre : List K} (h : Cur W X n0 Bx pre.length x d out u) (hB : Below n0 w0 W) (hc : CutSt (pre ++ [x]) d out) (h1 : out.length ≤ pre.length + 1) (h2 : d ≤ pre.length + 1) :
    KeepsFrom (n0 + 4) W (X.setCell ⟨n0 + 2, 0, none⟩ (.int .i64 ((pre.length : Int) + 1))) ∧ KeepL n0 W (X.setCell ⟨n0 + 2, 0, none⟩ (.int .i64 ((pre.length : Int) + 1))) ∧
      (CutI (n0 + 4) n0 (n0 + 1) (n0 + 2) (n0 + 3) (pre ++ [x]) (X.setCell ⟨n0 + 2, 0, none⟩ (.int .i64 ((pre.length : Int) + 1))) ∧ Below n0 w0 (X.setCell ⟨n0 + 2, 0, none⟩ (.int .i64 ((pre.length : Int) + 1)))) := by
  have hbl := h.bl.setCell (p := ⟨n0 + 2, 0, none⟩) (by show n0 ≤ n0 + 2; omega) (.int .i64 ((pre.length : Int) + 1))
  refine ⟨(h.ko.trans (KeepsOthers.setCell _ _ _)).from _, fun k hk => hbl.block k hk, ⟨d, out, u, hc, by simp; omega, by simp; omega, h.b2.other (by omega) _, h.b3.other (by omega) _, ownsRow_setCell_below h.row (by show n0 + 2 < n0 + 4; omega) _, ?_, h.b5.other (by omega) _⟩, hB.trans hbl⟩
  have := h.b4.set (.int .i64 ((pre.length : Int) + 1))
  rw [show ((pre ++ [x]).length : Int) = (pre.length : Int) + 1 by simp]
  exact this
end

set_option maxRecDepth 100000 in
set_option maxHeartbeats 4000000 in
theorem cuts_in (m : Nat) (hm : 3 ≤ m) (Bn n0 lb : Nat) (lv : Value) (vs : List Value) (st : List (List HT)) (b : Bool) (w : World) (h : Rs w n0 lb lv vs st b) (hbx : w.cell? ⟨Bn, 0, none⟩ = some (.pointer (some ⟨lb, 0, none⟩)))
    (hst : st.length ≤ 1000000) (hll : ∀ x ∈ st, x.length ≤ 1000000) (hfl : (Ep.flat st).length ≤ 1000000) :
    CallsIn Fence.wide m Tryz.prog 58 #[.func (.func 77) #[] #[.pointer (some ⟨Bn, 0, none⟩)]] w (CutsPost w.heap.size (Ep.cuts (Ep.flat st) 0 0 []) w) := by
  have h1 : 1 ≤ m := by omega
  obtain ⟨i0, hi, hz0, hz1, hz2⟩ := info_parts info3
  have hstop := all_stops (m - 1) (by omega) Bn n0 lb lv vs st b w h hbx hst hll
  obtain ⟨F, hF⟩ : ∃ F, F = Ep.flat st := ⟨_, rfl⟩
  rw [← hF] at hstop hfl ⊢
  obtain ⟨N, hN⟩ : ∃ N, N = F.length := ⟨_, rfl⟩
  rw [← hN] at hstop hfl
  have HN := Lib.hid hN
  clear h hbx hst hll hF hN
  refine callsIn_of_wp_marks Tryz.func58 rfl trivial ?_ rfl
  simp only [Tryz.ntmps58, List.size_toArray, List.length_cons, List.length_nil, Nat.reduceAdd, Nat.reduceSub, Array.replicate_succ, Array.replicate_zero, List.push_toArray, List.append_toArray, List.nil_append, List.cons_append]
  gi_wp2_with fail
  simp only [Nat.add_assoc, Nat.reduceAdd]
  have b2 := (((Boxed.new w 115 (.slice none 0 0)).alloc (.cells #[.slice none 0 0] 115)).alloc (.cells #[.int .i64 0] 3)).alloc (.cells #[.int .i64 0] 3)
  have b3 := ((Boxed.new (w.alloc (.cells #[.slice none 0 0] 115)) 115 (.slice none 0 0)).alloc (.cells #[.int .i64 0] 3)).alloc (.cells #[.int .i64 0] 3)
  have b4 := (Boxed.new ((w.alloc (.cells #[.slice none 0 0] 115)).alloc (.cells #[.slice none 0 0] 115)) 3 (.int .i64 0)).alloc (.cells #[.int .i64 0] 3)
  have b5 := Boxed.new (((w.alloc (.cells #[.slice none 0 0] 115)).alloc (.cells #[.slice none 0 0] 115)).alloc (.cells #[.int .i64 0] 3)) 3 (.int .i64 0)
  simp only [World.size_alloc, Nat.add_assoc, Nat.reduceAdd] at b3 b4 b5
  have hB0 : Below w.heap.size w ((((w.alloc (.cells #[.slice none 0 0] 115)).alloc (.cells #[.slice none 0 0] 115)).alloc (.cells #[.int .i64 0] 3)).alloc (.cells #[.int .i64 0] 3)) := ((((Below.refl _ w).alloc (Nat.le_refl _) _).alloc (by simp) _).alloc (by simp; omega) _).alloc (by simp; omega) _
  have hsz : ((((w.alloc (.cells #[.slice none 0 0] 115)).alloc (.cells #[.slice none 0 0] 115)).alloc (.cells #[.int .i64 0] 3)).alloc (.cells #[.int .i64 0] 3)).heap.size = w.heap.size + 4 := by simp
  obtain ⟨W0, hW0⟩ : ∃ W0, ((((w.alloc (.cells #[.slice none 0 0] 115)).alloc (.cells #[.slice none 0 0] 115)).alloc (.cells #[.int .i64 0] 3)).alloc (.cells #[.int .i64 0] 3)) = W0 := ⟨_, rfl⟩
  rw [hW0] at b2 b3 b4 b5 hB0 hsz ⊢
  clear hW0
  refine wpIn_rangeFunc_ownH rfl h1 (gf := 77) (lb := #[.pointer (some ⟨Bn, 0, none⟩)]) rfl trivial (enters_of Tryz.func77 (by kernel_rfl) rfl)
    hstop KeepL.trans (KeepL.put (by omega)) hB0 (fun _ => rfl)
    (fun pre W => CutI (w.heap.size + 4) w.heap.size (w.heap.size + 1) (w.heap.size + 2) (w.heap.size + 3) pre W ∧ Below w.heap.size w W)
    (fun c pre W => (c = .ret ∧ CutX (w.heap.size + 4) w.heap.size pre W) ∧ Below w.heap.size w W)
    (OwnFrom.and (Own.from (cutI_own _ _ _ _ _) _) (ownFrom_below (Nat.le_refl _) (by omega)))
    (fun c => OwnFrom.and (Own.from (fun s A B row hs hg hr => ⟨hs.1, cutX_own (w.heap.size + 4) w.heap.size s A B row hs.2 hg hr⟩) _) (ownFrom_below (Nat.le_refl _) (by omega)))
    ⟨⟨0, [], .slice none 0 0, cutSt_nil, Nat.le_refl _, Nat.le_refl _, b2, b3, World.ownsRow_nil _ _ _ _, b4, b5⟩, hB0⟩
    (fun x a' W => ∃ Bx, w.heap.size + 4 ≤ Bx ∧ BoxK W Bx x ∧ a' = { tmps := #[.func (.func 77) #[] #[.pointer (some ⟨Bn, 0, none⟩)], undef, .pointer (some ⟨w.heap.size, 0, none⟩), .pointer (some ⟨w.heap.size + 1, 0, none⟩), .pointer (some ⟨w.heap.size + 2, 0, none⟩), .pointer (some ⟨w.heap.size + 3, 0, none⟩), .pointer (some ⟨Bx, 0, none⟩), .func (.func 77) #[] #[.pointer (some ⟨Bn, 0, none⟩)], kAgg x, undef, undef, undef, undef, undef, undef, undef, undef, undef, undef, undef, undef, undef, undef, undef, undef, undef, undef, undef, undef, undef, undef, undef, undef, undef, undef, undef, undef, undef, undef, undef, undef, undef, undef, undef, undef, undef, undef], defers := [] })
    (fun x a' _ X Y row hs hg hr => by obtain ⟨Bx, h1, h2, h3⟩ := hs; exact ⟨Bx, h1, boxK_own Bx x () X Y row h2 hg (fun r e => (hr r e).2), h3⟩)
    ?assign ?body ?done ?stop
  case assign =>
    rintro l pre x W K ⟨hI, hB1⟩ hK
    have hlt : w.heap.size + 4 ≤ W.heap.size := by obtain ⟨d, out, u, -, -, -, -, -, -, -, c5⟩ := hI; have := c5.lt; omega
    have hal : Below W.heap.size W (W.alloc (.cells #[.int .i64 x.kind, .string x.text, .int .i64 x.file, .int .i64 x.fr, .int .i64 x.en, .bool x.bl] 30)) := (Below.refl _ _).alloc (Nat.le_refl _) _
    have hI2 : CutI (w.heap.size + 4) w.heap.size (w.heap.size + 1) (w.heap.size + 2) (w.heap.size + 3) pre (W.alloc (.cells #[.int .i64 x.kind, .string x.text, .int .i64 x.file, .int .i64 x.fr, .int .i64 x.en, .bool x.bl] 30)) := by
      obtain ⟨d, out, u, e1, e2, e3, c2, c3, hr, c4, c5⟩ := hI
      exact ⟨d, out, u, e1, e2, e3, box_below c2 hal, box_below c3 hal, row_below hr hal, box_below c4 hal, box_below c5 hal⟩
    have HI2 := Lib.hid hI2
    have HAL := Lib.hid hal
    clear hI hI2 hal
    dsimp only [kAgg]
    gi_wp2
    exact hK _ _ ((KeepsOthers.alloc _ _).from _) (fun k hk => HAL.out.block k (by omega)) ⟨HI2.out, hB1.alloc hB1.size _⟩ ⟨W.heap.size, hlt, heap_alloc_new W _, rfl⟩
  case body =>
    rintro l pre x a' W hl _ ⟨⟨d, out, u, e1, e2, e3, c2, c3, hr, c4, c5⟩, hB1⟩ ⟨Bx, hBx, bX, rfl⟩ hlt
    have hcur : Cur W W w.heap.size Bx pre.length x d out u := ⟨c2, c3, hr, c4, c5, bX, hBx, KeepsOthers.refl _, Below.refl _ _⟩
    have HE1 := Lib.hid e1
    have hpl : pre.length ≤ 1000000 := by omega
    clear c2 c3 hr c4 c5 e1 hstop
    obtain ⟨x0, x1, x2, x3, x4, x5⟩ := box6_cells bX
    have k1 := fun W => esign_any x LP W
    have k2 := fun W => esign_any x RP W
    have k3 := fun W => esign_any x CM W
    have hstep : cutStep pre.length d out x = if isP x LP then some (d + 1, if d = 0 then out ++ [pre.length] else out) else if d = 0 then none else if isP x RP then (if d = 1 then none else some (d - 1, out)) else if d = 1 && isP x CM then some (d, out ++ [pre.length]) else some (d, out) := rfl
    have HST := Lib.hid hstep
    obtain ⟨s1, hs1⟩ : ∃ s1, s1 = isP x LP := ⟨_, rfl⟩
    rw [← hs1] at k1
    have HS1 := Lib.hid hs1
    have HCUR := Lib.hid hcur
    clear hcur bX hstep hs1
    have K1 := Lib.hid k1
    have K2 := Lib.hid k2
    have K3 := Lib.hid k3
    clear k1 k2 k3
    dsimp only [kAgg] at K1 K2 K3 ⊢
    gi_wp2_with fail
    refine ⟨trivial, fun _ => by omega, (CallsIn.inRound l (callsIn_wide.2 (K1.out W))).mono ?_⟩
    rintro e W1 ⟨rfl, hBe⟩
    have hcur1 := HCUR.out.call hBe
    have hW1 := hcur1.lt
    have y2 := hcur1.b3.cell
    have y3 := hcur1.b4.cell
    have y4 := hcur1.b5.cell
    have y2f := hcur1.b3.frozen
    have y3f := hcur1.b4.frozen
    have y4f := hcur1.b5.frozen
    obtain ⟨x0', x1', x2', x3', x4', x5'⟩ := box6_cells hcur1.bx
    clear x0 x1 x2 x3 x4 x5 hBe
    cases s1 with
    | true =>
      have hst := HST.out
      rw [← HS1.out, if_pos rfl] at hst
      have hout := cutStep_len hst e2 e3
      rcases Nat.eq_zero_or_pos d with hd0 | hd0
      · subst hd0
        rw [if_pos rfl] at hst hout
        have hcur2 := hcur1.setD 1 1 rfl
        have HC2 := Lib.hid hcur2
        have hrow2 : World.ownsRow _ _ _ _ _ _ _ := hcur2.row
        have HST2 := Lib.hid hst
        have HC1 := Lib.hid hout
        clear hcur1 hcur2 hst hout
        have hnews := World.news_of_block (cs := #[.int .i64 pre.length]) (t := 3) (fr := (0, 0)) (heap_alloc_new (W1.setCell ⟨w.heap.size + 3, 0, none⟩ (.int .i64 1)) (.cells #[.int .i64 pre.length] 3))
        rw [show (W1.setCell ⟨w.heap.size + 3, 0, none⟩ (.int .i64 1)).heap.size = W1.heap.size by simp] at hnews
        have HNEW := Lib.hid hnews
        clear hnews
        gi_wp2_with (gi_at_builtin; refine wpListIn_append_own _ rfl _ _ 115 rfl (w.heap.size + 4) 3 i0 (.int .i64 0) 1 8 Tryz.underlying115 hi hz0 hz1 hz2 rfl (by decide) _ _ _ rfl (hrow2.alloc _) ⟨W1.heap.size, 0, none⟩ 1 1 [.int .i64 pre.length] rfl rfl HNEW.out (by simp [Value.oneCell']) (by unfold maxLen; omega) (by omega) (by simp; omega) ?_; intro v' w2 hown' hgrow _; obtain ⟨g', cap', rfl⟩ := ownsRow_succ hown'; obtain ⟨hc3, hf3, hc3c⟩ := HC2.out.app hown' hgrow; have q4 := hc3.b4.cell; have q4f := hc3.b4.frozen)
        rw [hsz]
        exact hc3.end hB1 (HE1.out.snoc HST2.out) HC1.out.1 HC1.out.2
      · have hcur2 := hcur1.setD (d + 1) ((d : Int) + 1) rfl
        have HC2 := Lib.hid hcur2
        rw [if_neg (by omega)] at hst hout
        have HST2 := Lib.hid hst
        have hdb : (((d : Int) + 1) == 1) = false := beq_eq_false_iff_ne.2 (by omega)
        have HC1 := Lib.hid hout
        clear hcur1 hcur2 hst hout
        gi_wp2_with fail
        rw [hsz]
        exact HC2.out.end hB1 (HE1.out.snoc HST2.out) HC1.out.1 HC1.out.2
    | false =>
      have hst := HST.out
      rw [← HS1.out, if_neg (by simp)] at hst
      rcases Nat.eq_zero_or_pos d with hd0 | hd0
      · subst hd0
        rw [if_pos rfl] at hst
        have HST2 := Lib.hid hst
        have HC1 := Lib.hid hcur1
        have hw1 := hcur1.b2.cell
        have hw2 := hcur1.b2.frozen
        clear hcur1 hst
        gi_wp2_with fail
        refine ⟨(HC1.out.ko.trans (KeepsOthers.setCell _ _ _)).from _, ⟨rfl, none, .slice none 0 0, fun r => HE1.out.stop HST2.out r, HC1.out.b2.set _, rfl⟩, hB1.trans (HC1.out.bl.setCell (by show w.heap.size ≤ w.heap.size; omega) _)⟩
      · rw [if_neg (by omega)] at hst
        have hdb : ((d : Int) == 0) = false := beq_eq_false_iff_ne.2 (by omega)
        have HST2 := Lib.hid hst
        have HC1 := Lib.hid hcur1
        clear hcur1 hst
        gi_wp2_with fail
        refine ⟨trivial, fun _ => by omega, (CallsIn.inRound l (callsIn_wide.2 (K2.out W1))).mono ?_⟩
        rintro e W2 ⟨rfl, hBe⟩
        have hcur2 := HC1.out.call hBe
        have hW2 := hcur2.lt
        have u2 := hcur2.b3.cell
        have u3 := hcur2.b4.cell
        have u4 := hcur2.b5.cell
        have u5 := hcur2.b2.cell
        have u2f := hcur2.b3.frozen
        have u3f := hcur2.b4.frozen
        have u4f := hcur2.b5.frozen
        have u5f := hcur2.b2.frozen
        obtain ⟨v0', v1', v2', v3', v4', v5'⟩ := box6_cells hcur2.bx
        clear x0' x1' x2' x3' x4' x5' y2 y3 y4 y2f y3f y4f hBe
        obtain ⟨s2, hs2⟩ : ∃ s2, s2 = isP x RP := ⟨_, rfl⟩
        rw [← hs2]
        have hst := HST2.out
        rw [← hs2] at hst
        clear hs2
        cases s2 with
        | true =>
          rw [if_pos rfl] at hst
          rcases Decidable.em (d = 1) with rfl | hd1
          · rw [if_pos rfl] at hst
            have hcur3 := hcur2.setD 0 0 rfl
            have HC2 := Lib.hid hcur3
            have hrow2 : World.ownsRow _ _ _ _ _ _ _ := hcur3.row
            have HST3 := Lib.hid hst
            clear hcur2 hcur3 hst
            have hnews := World.news_of_block (cs := #[.int .i64 pre.length]) (t := 3) (fr := (0, 0)) (heap_alloc_new (W2.setCell ⟨w.heap.size + 3, 0, none⟩ (.int .i64 0)) (.cells #[.int .i64 pre.length] 3))
            rw [show (W2.setCell ⟨w.heap.size + 3, 0, none⟩ (.int .i64 0)).heap.size = W2.heap.size by simp] at hnews
            have HNEW := Lib.hid hnews
            clear hnews
            gi_wp2_with (gi_at_builtin; refine wpListIn_append_own _ rfl _ _ 115 rfl (w.heap.size + 4) 3 i0 (.int .i64 0) 1 8 Tryz.underlying115 hi hz0 hz1 hz2 rfl (by decide) _ _ _ rfl (hrow2.alloc _) ⟨W2.heap.size, 0, none⟩ 1 1 [.int .i64 pre.length] rfl rfl HNEW.out (by simp [Value.oneCell']) (by unfold maxLen; omega) (by omega) (by simp; omega) ?_; intro v' w2 hown' hgrow _; obtain ⟨g', cap', rfl⟩ := ownsRow_succ hown'; obtain ⟨⟨q2, q2f⟩, hret⟩ := HC2.out.ret hown' hgrow)
            obtain ⟨r1, r2, r3, r4⟩ := hret
            exact ⟨r1.from _, ⟨rfl, some (out ++ [pre.length]), _, fun r => HE1.out.stop HST3.out r, r3, r4, by simp⟩, hB1.trans r2⟩
          · rw [if_neg hd1] at hst
            have hout := cutStep_len hst e2 e3
            have z1 : ((d : Int) - 1) = ((d - 1 : Nat) : Int) := by omega
            have hcur3 := hcur2.setD (d - 1) ((d : Int) - 1) z1
            have hdb2 : (((d : Int) - 1) == 0) = false := beq_eq_false_iff_ne.2 (by omega)
            have HC2 := Lib.hid hcur3
            have HST3 := Lib.hid hst
            have HC4 := Lib.hid hout
            clear hcur2 hcur3 hst hout z1
            gi_wp2_with fail
            rw [hsz]
            exact HC2.out.end hB1 (HE1.out.snoc HST3.out) HC4.out.1 HC4.out.2
        | false =>
          rw [if_neg (by simp)] at hst
          rcases Decidable.em (d = 1) with rfl | hd1
          · have HC5 := Lib.hid hcur2
            have HST3 := Lib.hid hst
            clear hcur2 hst
            gi_wp2_with fail
            refine ⟨trivial, fun _ => by omega, (CallsIn.inRound l (callsIn_wide.2 (K3.out W2))).mono ?_⟩
            rintro e W3 ⟨rfl, hBe⟩
            have hcur3 := HC5.out.call hBe
            have hW3 := hcur3.lt
            have t2 := hcur3.b3.cell
            have t3 := hcur3.b4.cell
            have t2f := hcur3.b3.frozen
            have t3f := hcur3.b4.frozen
            have hrow2 : World.ownsRow _ _ _ _ _ _ _ := hcur3.row
            clear v0' v1' v2' v3' v4' v5' u2 u3 u4 u5 u2f u3f u4f u5f hBe
            obtain ⟨s3, hs3⟩ : ∃ s3, s3 = isP x CM := ⟨_, rfl⟩
            rw [← hs3]
            have hst := HST3.out
            rw [← hs3] at hst
            have HC2 := Lib.hid hcur3
            clear hs3 hcur3
            cases s3 with
            | true =>
              rw [if_pos (by simp)] at hst
              have hout := cutStep_len hst e2 e3
              have HST4 := Lib.hid hst
              have HC4 := Lib.hid hout
              clear hst hout
              have hnews := World.news_of_block (cs := #[.int .i64 pre.length]) (t := 3) (fr := (0, 0)) (heap_alloc_new W3 (.cells #[.int .i64 pre.length] 3))
              have HNEW := Lib.hid hnews
              clear hnews
              gi_wp2_with (gi_at_builtin; refine wpListIn_append_own _ rfl _ _ 115 rfl (w.heap.size + 4) 3 i0 (.int .i64 0) 1 8 Tryz.underlying115 hi hz0 hz1 hz2 rfl (by decide) _ _ _ rfl (hrow2.alloc _) ⟨W3.heap.size, 0, none⟩ 1 1 [.int .i64 pre.length] rfl rfl HNEW.out (by simp [Value.oneCell']) (by unfold maxLen; omega) (by omega) (by simp; omega) ?_; intro v' w2 hown' hgrow _; obtain ⟨g', cap', rfl⟩ := ownsRow_succ hown'; obtain ⟨hc3, hf3, hc3c⟩ := HC2.out.app hown' hgrow; have q4 := hc3.b4.cell; have q4f := hc3.b4.frozen)
              rw [hsz]
              exact hc3.end hB1 (HE1.out.snoc HST4.out) HC4.out.1 HC4.out.2
            | false =>
              rw [if_neg (by simp)] at hst
              have hout := cutStep_len hst e2 e3
              have HST4 := Lib.hid hst
              have HC4 := Lib.hid hout
              clear hst hout
              gi_wp2_with fail
              rw [hsz]
              exact HC2.out.end hB1 (HE1.out.snoc HST4.out) HC4.out.1 HC4.out.2
          · have hdb3 : ((d : Int) == 1) = false := beq_eq_false_iff_ne.2 (by omega)
            rw [if_neg (by simp [hd1])] at hst
            have hout := cutStep_len hst e2 e3
            have HC2 := Lib.hid hcur2
            have HST4 := Lib.hid hst
            have HC4 := Lib.hid hout
            clear hst hout hcur2
            gi_wp2_with fail
            refine ⟨trivial, ?_⟩
            gi_wp2_with fail
            rw [hsz]
            exact HC2.out.end hB1 (HE1.out.snoc HST4.out) HC4.out.1 HC4.out.2
  case done =>
    rintro D ys W hD rfl ⟨⟨d, out, u, e1, -, -, c2, c3, hr, c4, c5⟩, hB1⟩ hK
    have cR := c2.cell
    have fR := c2.frozen
    have HE := Lib.hid e1.done
    clear e1 hr c3 c4 c5 hstop
    gi_wp2
    have hK' := (KeepsOthers.setCell W ⟨w.heap.size, 0, none⟩ (.slice none 0 0)).same D _ hK rfl
    refine ⟨by simp, .inl ⟨_, _, rfl, run_takeDeferred hK', ?_⟩⟩
    have hc5 := cell_kept (World.cell?_setCell_same' W ⟨w.heap.size, 0, none⟩ (.slice none 0 0) (by rw [cR]; rfl)) (grownBy_putObj' _ D (.deferred none)) (fun r e => by cases e; exact ⟨_, hK', rfl⟩)
    refine ⟨.slice none 0 0, ?_, .slice none 0 0, rfl, by rw [HE.out], (hB1.setCell (p := ⟨w.heap.size, 0, none⟩) (by simp) _).trans (belowK_b (w := w) (Nat.le_refl _) _ D _ _ (by omega) hK' rfl rfl)⟩
    simp [results, Tryz.results58, go_sem, hc5]
  case stop =>
    rintro D c pre W hD hpre ⟨⟨rfl, res, u, hres, bR, hm⟩, hB1⟩ hK
    have cR := bR.cell
    have HR := Lib.hid (show Ep.cuts F 0 0 [] = res by obtain ⟨q, hq⟩ := hpre; rw [← hq]; exact hres q)
    clear hres hpre hstop
    gi_wp2
    refine ⟨by simp, .inl ⟨_, _, rfl, run_takeDeferred hK, ?_⟩⟩
    have hc5 := cell_kept cR (grownBy_putObj' _ D (.deferred none)) (fun r e => by cases e; exact ⟨_, hK, rfl⟩)
    refine ⟨u, ?_, u, rfl, ?_, hB1.trans (belowK_b (w := w) (Nat.le_refl _) W D _ _ (by omega) hK rfl rfl)⟩
    · simp [results, Tryz.results58, go_sem, hc5]
    · rw [HR.out]
      cases res with
      | none => exact hm
      | some out => exact ⟨irow_base (ownsRow_putObj hm.1 _ hK rfl) (by omega), hm.2⟩
theorem cuts_any (Bn n0 lb : Nat) (lv : Value) (vs : List Value) (st : List (List HT)) (b : Bool) (w : World) (h : Rs w n0 lb lv vs st b) (hbx : w.cell? ⟨Bn, 0, none⟩ = some (.pointer (some ⟨lb, 0, none⟩)))
    (hst : st.length ≤ 1000000) (hll : ∀ x ∈ st, x.length ≤ 1000000) (hfl : (Ep.flat st).length ≤ 1000000) :
    Calls Tryz.prog 58 #[.func (.func 77) #[] #[.pointer (some ⟨Bn, 0, none⟩)]] w (CutsPost w.heap.size (Ep.cuts (Ep.flat st) 0 0 []) w) :=
  callsIn_wide.1 (cuts_in 3 (by omega) Bn n0 lb lv vs st b w h hbx hst hll hfl)
end Go.Proofs.YtlepnafgcmeimaaGreatDoor

/- What is proved: what shared tells. -/
namespace Go.Proofs.YtlepnafgcmeimaaGreatDoor
open Go.RowKit Go.Shelf
open Ep (HT XS)
open Mx (M)

/-- An invocation's tokens and the places of its signs. -/
structure InvOk (ins : List HT) (cs : List Nat) : Prop where
  ne : 0 < cs.length
  lt : ∀ i j, i < j → j < cs.length → cs.getD i 0 < cs.getD j 0
  le : ∀ i, i < cs.length → cs.getD i 0 < ins.length
  last : cs.getD (cs.length - 1) 0 + 1 = ins.length
  bound : ins.length ≤ 1000000
theorem InvOk.ge {ins : List HT} {cs : List Nat} (h : InvOk ins cs) : ∀ i, i < cs.length → i ≤ cs.getD i 0
  | 0, _ => Nat.zero_le _
  | i + 1, hi => by
    have h1 := h.ge i (by omega)
    have h2 := h.lt i (i + 1) (by omega) hi
    omega
theorem InvOk.size {ins : List HT} {cs : List Nat} (h : InvOk ins cs) : cs.length ≤ ins.length := by
  have h1 := h.ge (cs.length - 1) (by have := h.ne; omega)
  have := h.last
  have := h.ne
  omega
/-- A row of lists. -/
def LRow (W : World) (B : Nat) (v : Value) (ls : List (List HT)) (vs : List Value) : Prop := W.ownsRow B 54 1 v ls.length vs ∧ vs.length = ls.length ∧ ∀ (i : Nat) (x : List HT), ls[i]? = some x → ∃ u, vs[i]? = some u ∧ Hs W u x
theorem LRow.nil (W : World) (B : Nat) : LRow W B (.slice none 0 0) [] [] := ⟨World.ownsRow_nil _ _ _ _, rfl, fun i x h => by simp at h⟩
theorem LRow.below {W W' : World} {B : Nat} {v : Value} {ls : List (List HT)} {vs : List Value} (h : LRow W B v ls vs) (hb : Below W.heap.size W W') : LRow W' B v ls vs :=
  ⟨row_below h.1 hb, h.2.1, fun i x hx => by obtain ⟨u, h1, h2⟩ := h.2.2 i x hx; exact ⟨u, h1, h2.below hb⟩⟩
theorem LRow.snoc {W W1 W' : World} {B : Nat} {v v' u : Value} {ls : List (List HT)} {vs : List Value} {x : List HT} (h : LRow W B v ls vs) (hu : Hs W u x) (hal : Below W.heap.size W W1) (hown : W'.ownsRow B 54 1 v' (ls.length + 1) (vs ++ [u])) (hg : W1.grownBy W' v.ownBlock) (hrow : W1.ownsRow B 54 1 v ls.length vs) :
    LRow W' B v' (ls ++ [x]) (vs ++ [u]) := by
  have k1 : Kept 92 W W' := (Kept.of_below hal _).trans (row_kept hrow hg (by decide))
  have k2 : Kept 137 W W' := (Kept.of_below hal _).trans (row_kept hrow hg (by decide))
  refine ⟨by rw [List.length_append]; exact hown, by simp [h.2.1], fun i y hy => ?_⟩
  rcases Nat.lt_or_ge i ls.length with hi | hi
  · rw [List.getElem?_append_left hi] at hy
    obtain ⟨z, h1, h2⟩ := h.2.2 i y hy
    exact ⟨z, by rw [List.getElem?_append_left (by rw [h.2.1]; exact hi)]; exact h1, h2.keep k1 k2⟩
  · rw [List.getElem?_append_right hi] at hy
    have h0 : i - ls.length = 0 := by have := (List.getElem?_eq_some_iff.1 hy).1; simp at this; omega
    rw [h0] at hy
    simp only [List.getElem?_cons_zero, Option.some.injEq] at hy
    subst hy
    refine ⟨u, ?_, hu.keep k1 k2⟩
    rw [List.getElem?_append_right (by rw [h.2.1]; exact hi), h.2.1, h0]
    rfl
def SharedPost (w : World) (r : Except Int (List (List HT))) (e : Ending) (w' : World) : Prop :=
  match r with
  | .ok raws => (∃ v vs, e = .returned (.tuple #[v, .int .i64 0]) ∧ LRow w' w.heap.size v raws vs) ∧ Below w.heap.size w w'
  | .error k => e = .returned (.tuple #[.slice none 0 0, .int .i64 k]) ∧ k ≠ 0 ∧ Below w.heap.size w w'

set_option maxRecDepth 100000 in
set_option maxHeartbeats 4000000 in
/-- A macro that takes no arguments. -/
theorem eshared_plain (kb : Nat) (m : M) (pv bv pp iv cv : Value) (ins : List HT) (cs : List Nat) (w : World) (hk : w.heap[kb]? = some (.cells #[.string m.name, .bool m.fn, pv, .bool m.va, bv, pp] 85 (0, 0))) (hf : m.fn = false) :
    Calls Tryz.prog 79 #[.pointer (some ⟨kb, 0, none⟩), iv, cv] w (SharedPost w (Ep.shared m ins cs)) := by
  obtain ⟨k0, k1, k2, k3, k4, k5⟩ := box6_cells hk
  have hr : Ep.shared m ins cs = .ok [] := by simp [Ep.shared, hf]
  rw [hr]
  rw [hf] at k1
  clear hr hk
  go_enter Tryz.func79, Tryz.ntmps79
  go_wp2_with fail
  go_ret2
  exact ⟨⟨_, _, rfl, LRow.nil _ _⟩, Below.refl _ _⟩

noncomputable def sharedBody : Code := Tryz.f79.body.getD .skip
theorem irow_get {W : World} {B : Nat} {v : Value} {cs : List Nat} (h : IRow W B v cs) (hn : 0 < cs.length) : ∃ g cap, v = .slice (some ⟨g, 0, none⟩) cs.length cap ∧ g < W.heap.size ∧ ∀ i, i < cs.length → W.cell? ⟨g, i, none⟩ = some (.int .i64 ((cs.getD i 0 : Nat) : Int)) := by
  have hc := fun g => World.ownsRow.cells (g := g) h
  rcases h.2 with ⟨rfl, h0⟩ | ⟨g, cap, cur, rfl, _, hb, _⟩
  · omega
  · refine ⟨g, cap, rfl, lt_of_heap hb, fun i hi => ?_⟩
    have := hc g rfl i (.int .i64 ((cs.getD i 0 : Nat) : Int)) (by simp [intsV, List.getD, List.getElem?_eq_getElem hi])
    rwa [add_none, Nat.zero_add] at this
/-- What holds from the loop on. -/
structure ShL (w W : World) (kb : Nat) (m : M) (ig io L icap : Nat) (ins : List HT) (cg ccap : Nat) (cs : List Nat) (ls : List (List HT)) (v : Value) (vs : List Value) : Prop where
  kn : ∃ pv bv pp, W.heap[kb]? = some (.cells #[.string m.name, .bool m.fn, pv, .bool m.va, bv, pp] 85 (0, 0))
  hi : Hs W (.slice (some ⟨ig, io, none⟩) L icap) ins
  hc : cg < W.heap.size ∧ ∀ i, i < cs.length → W.cell? ⟨cg, i, none⟩ = some (.int .i64 ((cs.getD i 0 : Nat) : Int))
  row : LRow W w.heap.size v ls vs
  bl : Below w.heap.size w W
theorem ShL.below {w W W' : World} {kb : Nat} {m : M} {ig io L icap : Nat} {ins : List HT} {cg ccap : Nat} {cs : List Nat} {ls : List (List HT)} {v : Value} {vs : List Value} (h : ShL w W kb m ig io L icap ins cg ccap cs ls v vs) (hb : Below W.heap.size W W') :
    ShL w W' kb m ig io L icap ins cg ccap cs ls v vs := by
  obtain ⟨⟨pv, bv, pp, k⟩, h2, ⟨h3, h4⟩, h5, h6⟩ := h
  exact ⟨⟨pv, bv, pp, (hb.block _ (lt_of_heap k)).trans k⟩, h2.below hb, ⟨Nat.lt_of_lt_of_le h3 hb.size, fun i hi => (hb.cell (p := ⟨cg, i, none⟩) h3).trans (h4 i hi)⟩, h5.below hb, Below.then h6 hb⟩
/-- One list more. -/
theorem ShL.snoc {w W W1 W' : World} {kb : Nat} {m : M} {ig io L icap : Nat} {ins : List HT} {cg ccap : Nat} {cs : List Nat} {ls : List (List HT)} {v v' u : Value} {vs : List Value} {x : List HT} (h : ShL w W kb m ig io L icap ins cg ccap cs ls v vs) (hcb : cg < w.heap.size) (hkb : kb < w.heap.size) (hu : Hs W u x)
    (hal : Below W.heap.size W W1) (hown : W'.ownsRow w.heap.size 54 1 v' (ls.length + 1) (vs ++ [u])) (hg : W1.grownBy W' v.ownBlock) (hrow : W1.ownsRow w.heap.size 54 1 v ls.length vs) : ShL w W' kb m ig io L icap ins cg ccap cs (ls ++ [x]) v' (vs ++ [u]) := by
  have hb1 : Below w.heap.size w W1 := Below.then h.bl hal
  have hb2 : Below w.heap.size w W' := hb1.grown hg (Nat.le_trans h.bl.size hal.size) (fun j e => (hrow.lt j e).1)
  have kk : ∀ b, b < w.heap.size → W'.heap[b]? = W.heap[b]? := fun b hb => (hb2.block b hb).trans (h.bl.block b hb).symm
  have k1 : Kept 92 W W' := (Kept.of_below hal _).trans (row_kept hrow hg (by decide))
  have k2 : Kept 137 W W' := (Kept.of_below hal _).trans (row_kept hrow hg (by decide))
  refine ⟨?_, h.hi.keep k1 k2, ⟨Nat.lt_of_lt_of_le hcb hb2.size, fun i hi => (World.cell?_of_block (a := ⟨cg, i, none⟩) (kk cg hcb)).trans (h.hc.2 i hi)⟩, h.row.snoc hu hal hown hg hrow, hb2⟩
  obtain ⟨pv, bv, pp, k⟩ := h.kn
  exact ⟨pv, bv, pp, (kk kb hkb).trans k⟩

set_option maxRecDepth 100000 in
set_option maxHeartbeats 4000000 in
theorem shared_end (w W : World) (kb : Nat) (m : M) (ig io L icap : Nat) (ins : List HT) (cg ccap : Nat) (cs : List Nat) (v : Value) (vs : List Value) (N A : Nat) c3 c4 c5 c6 c7 c11 c12 c13 c14 c15 c16 c17 c18 c19 c20 c21 c22 c23 c24 c25 c26 c27 c28 c29 c30 c31 c32 c33 c34 c35 c36 c37 c38 c39 c40 c41 c42 c43 c44 c45 c46 c47 c48 c49 c50 c51 c52 c53 c54 c55 c56 c57 c58 c59 c60 c61 c62 c63 c64 c65 c66 c67 c68 c69 c70 c71 c72 c73 c74 c75 c76 c77 c78 c79 c80 c81 c82 c83 c84 c85 c86 c87 c88 c89 c90 c91 c92 c93 (h : ShL w W kb m ig io L icap ins cg ccap cs ((List.range A).map fun i => Ep.sl ins (cs.getD i 0 + 1) (cs.getD (i + 1) 0)) v vs)
    (ho : InvOk ins cs) (hA : A = m.ps.length) (hAN : A ≤ N) (hN : N = 0 ∨ N + 1 = cs.length) (hL : L = ins.length) (hic : L ≤ icap) (hcb : cg < w.heap.size) (hkb : kb < w.heap.size) (hA1 : A ≤ 1000000) (R : List (List HT)) (hR : R = (((List.range A).map fun i => Ep.sl ins (cs.getD i 0 + 1) (cs.getD (i + 1) 0)) ++ (if m.va then [if A < N then Ep.sl ins (cs.getD A 0 + 1) (ins.length - 1) else []] else []))) :
    Code.wp Tryz.prog (secs 7 sharedBody) (bodyPost Tryz.prog Tryz.f79 (SharedPost w (.ok R)))
      ⟨#[.pointer (some ⟨kb, 0, none⟩), .slice (some ⟨ig, io, none⟩) L icap, .slice (some ⟨cg, 0, none⟩) cs.length ccap, c3, c4, c5, c6, c7, .int .i64 (N : Int), .int .i64 (A : Int), v, c11, c12, c13, c14, c15, c16, c17, c18, c19, c20, c21, c22, c23, c24, c25, c26, c27, c28, c29, c30, c31, c32, c33, c34, c35, c36, c37, c38, c39, c40, c41, c42, c43, c44, c45, c46, c47, c48, c49, c50, c51, c52, c53, c54, c55, c56, c57, c58, c59, c60, c61, c62, c63, c64, c65, c66, c67, c68, c69, c70, c71, c72, c73, c74, c75, c76, c77, c78, c79, c80, c81, c82, c83, c84, c85, c86, c87, c88, c89, c90, c91, c92, c93], []⟩ W := by
  obtain ⟨i0, hi, hz0, hz1, hz2⟩ := info_parts infoHts
  obtain ⟨pv, bv, pp, hk⟩ := id h.kn
  obtain ⟨k0, k1, k2, k3, k4, k5⟩ := box6_cells hk
  have h0 := ho.ne
  have hsz := ho.size
  have hbd := ho.bound
  have HH := Lib.hid h
  have HO := Lib.hid ho
  have HL := Lib.hid hL
  cases hva : m.va with
  | false =>
    rw [hva] at k3
    rw [hva, if_neg (by decide), List.append_nil] at hR
    have HR := Lib.hid hR
    clear hR
    clear hk h ho hL hA
    refine wp_sec 7 sharedBody rfl ?_
    conv => arg 2; whnf
    go_wp2_with fail
    refine wp_sec 8 sharedBody rfl ?_
    conv => arg 2; whnf
    go_wp2_with fail
    conv => arg 2; whnf
    go_wp2_with fail
    go_ret2
    refine ⟨⟨v, vs, rfl, ?_⟩, HH.out.bl⟩
    rw [HR.out]
    exact HH.out.row
  | true =>
    rw [hva] at k3
    rw [hva, if_pos rfl] at hR
    by_cases hlt : A < N
    · have hcc : A < cs.length := by omega
      have hb1 := ho.le A hcc
      have hle : cs.getD A 0 + 1 ≤ ins.length - 1 := by
        have h1 := ho.lt A (cs.length - 1) (by omega) (by omega)
        have h2 := ho.last
        omega
      have c1 := h.hc.2 A hcc
      have hp := h.hi.part (cs.getD A 0 + 1) (ins.length - 1) ((cs.getD A 0 + 1) * 8) hle (by omega) (fun _ => rfl)
      obtain ⟨a, ha⟩ : ∃ a, a = cs.getD A 0 := ⟨_, rfl⟩
      obtain ⟨lo, hlo⟩ : ∃ lo, lo = a + 1 := ⟨_, rfl⟩
      obtain ⟨b, hb⟩ : ∃ b, b = ins.length - 1 := ⟨_, rfl⟩
      rw [← ha] at c1 hp hle hb1
      rw [← hlo, ← hb] at hp hle
      have HP := Lib.hid hp
      have z1 : (0 : Int) ≤ A := by omega
      have z2 : (A : Int) < cs.length := by omega
      have z3 : IntKind.i64.wrap ((a : Int) + 1) = (lo : Int) := by rw [IntWalk.i64_in _ (by omega)]; omega
      have z4 : IntKind.i64.wrap ((L : Int) - 1) = (b : Int) := by rw [IntWalk.i64_in _ (by omega)]; omega
      have z5 : (0 : Int) ≤ lo := by omega
      have z6 : (lo : Int) ≤ b := by omega
      have z7 : (b : Int) ≤ icap := by omega
      have z8 : ¬ lo = icap := by omega
      have z8' : ¬ icap = lo := by omega
      have z9 : (A : Int) < N := by omega
      have hrow := h.row.1
      have HROW := Lib.hid hrow
      have hws := h.bl.size
      rw [List.length_map, List.length_range] at hrow
      rw [if_pos hlt] at hR
      have HR := Lib.hid hR
      clear hR
      have HA := Lib.hid ha
      have HLO := Lib.hid hlo
      have HB := Lib.hid hb
      clear hk h ho hL hA hp ha hlo hb
      refine wp_sec 7 sharedBody rfl ?_
      conv => arg 2; whnf
      go_wp2_with (at_builtin; refine wpList_append_lies _ rfl _ _ 86 rfl w.heap.size 54 i0 _ 1 24 Tryz.underlying86 hi hz0 hz1 hz2 rfl (by decide) v A vs rfl (hrow.alloc _) ⟨W.heap.size, 0, none⟩ 1 1 [.slice (some ⟨ig, io + lo * 8, none⟩) (b - lo) (icap - lo)] rfl rfl (World.news_of_block (cs := #[.slice (some ⟨ig, io + lo * 8, none⟩) (b - lo) (icap - lo)]) (t := 54) (fr := (0, 0)) (heap_alloc_new W _)) (by simp [Value.oneCell']) (by decide) (by unfold maxLen; omega) (by omega) (by simp; omega) _ rfl ?_; intro gg cap' w2 hown hgrow hat hlt2)
      have hfin := HH.out.snoc hcb hkb HP.out ((Below.refl _ W).alloc (Nat.le_refl _) _) (by rw [List.length_map, List.length_range]; exact hown) hgrow (HROW.out.alloc _)
      have HF := Lib.hid hfin
      clear hfin hown hgrow hat
      refine wp_sec 8 sharedBody rfl ?_
      conv => arg 2; whnf
      go_wp2_with fail
      conv => arg 2; whnf
      go_wp2_with fail
      go_ret2
      have key := HF.out.row
      rw [HLO.out, HB.out, HA.out, ← HR.out] at key
      exact ⟨⟨_, _, rfl, key⟩, HF.out.bl⟩
    · rw [if_neg hlt] at hR
      have HR := Lib.hid hR
      clear hR
      have hrow := h.row.1
      have HROW := Lib.hid hrow
      have hws := h.bl.size
      rw [List.length_map, List.length_range] at hrow
      have z9 : ¬ (A : Int) < N := by omega
      have hnil : Hs W (.slice none 0 0) [] := Hs.nil W none 0 (Nat.zero_le _)
      have HP := Lib.hid hnil
      clear hk h ho hL hA hnil
      refine wp_sec 7 sharedBody rfl ?_
      conv => arg 2; whnf
      go_wp2_with (at_builtin; refine wpList_append_lies _ rfl _ _ 86 rfl w.heap.size 54 i0 _ 1 24 Tryz.underlying86 hi hz0 hz1 hz2 rfl (by decide) v A vs rfl (hrow.alloc _) ⟨W.heap.size, 0, none⟩ 1 1 [.slice none 0 0] rfl rfl (World.news_of_block (cs := #[.slice none 0 0]) (t := 54) (fr := (0, 0)) (heap_alloc_new W _)) (by simp [Value.oneCell']) (by decide) (by unfold maxLen; omega) (by omega) (by simp; omega) _ rfl ?_; intro gg cap' w2 hown hgrow hat hlt2)
      have hfin := HH.out.snoc hcb hkb HP.out ((Below.refl _ W).alloc (Nat.le_refl _) _) (by rw [List.length_map, List.length_range]; exact hown) hgrow (HROW.out.alloc _)
      have HF := Lib.hid hfin
      clear hfin hown hgrow hat
      refine wp_sec 8 sharedBody rfl ?_
      conv => arg 2; whnf
      go_wp2_with fail
      conv => arg 2; whnf
      go_wp2_with fail
      go_ret2
      have key := HF.out.row
      rw [← HR.out] at key
      exact ⟨⟨_, _, rfl, key⟩, HF.out.bl⟩

set_option maxRecDepth 100000 in
set_option maxHeartbeats 8000000 in
/-- The loop, and what is behind it. -/
theorem shared_loop (w W : World) (kb : Nat) (m : M) (ig io L icap : Nat) (ins : List HT) (cg ccap : Nat) (cs : List Nat) (N A : Nat) c3 c4 c5 c6 c7 c11 c12 c13 c14 c15 c16 c17 c18 c19 c20 c21 c22 c23 c24 c25 c26 c27 c28 c29 c30 c31 c32 c33 c34 c35 c36 c37 c38 c39 c40 c41 c42 c43 c44 c45 c46 c47 c48 c49 c50 c51 c52 c53 c54 c55 c56 c57 c58 c59 c60 c61 c62 c63 c64 c65 c66 c67 c68 c69 c70 c71 c72 c73 c74 c75 c76 c77 c78 c79 c80 c81 c82 c83 c84 c85 c86 c87 c88 c89 c90 c91 c92 c93 (h : ShL w W kb m ig io L icap ins cg ccap cs [] (.slice none 0 0) [])
    (ho : InvOk ins cs) (hA : A = m.ps.length) (hAN : A ≤ N) (hN : N = 0 ∨ N + 1 = cs.length) (hL : L = ins.length) (hic : L ≤ icap) (hcb : cg < w.heap.size) (hkb : kb < w.heap.size) (hA1 : A ≤ 1000000) (R : List (List HT)) (hR : R = (((List.range A).map fun i => Ep.sl ins (cs.getD i 0 + 1) (cs.getD (i + 1) 0)) ++ (if m.va then [if A < N then Ep.sl ins (cs.getD A 0 + 1) (ins.length - 1) else []] else []))) :
    Code.wp Tryz.prog (secs 6 sharedBody) (bodyPost Tryz.prog Tryz.f79 (SharedPost w (.ok R)))
      ⟨#[.pointer (some ⟨kb, 0, none⟩), .slice (some ⟨ig, io, none⟩) L icap, .slice (some ⟨cg, 0, none⟩) cs.length ccap, c3, c4, c5, c6, c7, .int .i64 (N : Int), .int .i64 (A : Int), .slice none 0 0, c11, c12, c13, c14, c15, c16, c17, c18, c19, c20, c21, c22, c23, c24, c25, c26, c27, c28, c29, c30, c31, c32, c33, c34, c35, c36, c37, c38, c39, c40, c41, c42, c43, c44, c45, c46, c47, c48, c49, c50, c51, c52, c53, c54, c55, c56, c57, c58, c59, c60, c61, c62, c63, c64, c65, c66, c67, c68, c69, c70, c71, c72, c73, c74, c75, c76, c77, c78, c79, c80, c81, c82, c83, c84, c85, c86, c87, c88, c89, c90, c91, c92, c93], []⟩ W := by
  obtain ⟨i0, hi, hz0, hz1, hz2⟩ := info_parts infoHts
  have h0 := ho.ne
  have hsz := ho.size
  have hbd := ho.bound
  have HH := Lib.hid h
  have HO := Lib.hid ho
  have HL := Lib.hid hL
  have HR := Lib.hid hR
  have HA := Lib.hid hA
  obtain ⟨f, hf⟩ : ∃ f : Nat → List HT, f = fun i => Ep.sl ins (cs.getD i 0 + 1) (cs.getD (i + 1) 0) := ⟨_, rfl⟩
  have HF := Lib.hid hf
  clear h ho hL hR hA hf
  refine wp_sec 6 sharedBody rfl ?_
  conv => arg 2; whnf
  go_wp2_with fail
  go_loopw [10, 52] (fun o a wr => ∃ (k : Nat) (ad : Option Addr) (cap : Nat) (vs : List Value), o = .slice ad k cap ∧ a = .int .i64 k ∧ k ≤ A ∧ ShL w wr kb m ig io L icap ins cg ccap cs ((List.range k).map f) (.slice ad k cap) vs) (fun _ a _ => A - (intOf a).toNat)
  case atStart => exact ⟨0, none, 0, [], rfl, rfl, Nat.zero_le _, HH.out⟩
  case round =>
    obtain ⟨k, ad, cap, vs, rfl, rfl, hk, hS⟩ := hrel
    by_cases hlt : k < A
    · have hcc : k + 1 < cs.length := by omega
      have hh := hS.hc.1
      have c1 := hS.hc.2 k (by omega)
      have c2 := hS.hc.2 (k + 1) hcc
      have hle : cs.getD k 0 + 1 ≤ cs.getD (k + 1) 0 := HO.out.lt k (k + 1) (by omega) hcc
      have hb1 := HO.out.le (k + 1) hcc
      have hp := hS.hi.part (cs.getD k 0 + 1) (cs.getD (k + 1) 0) ((cs.getD k 0 + 1) * 8) hle (by omega) (fun _ => rfl)
      obtain ⟨a, ha⟩ : ∃ a, a = cs.getD k 0 := ⟨_, rfl⟩
      obtain ⟨b, hb⟩ : ∃ b, b = cs.getD (k + 1) 0 := ⟨_, rfl⟩
      obtain ⟨lo, hlo⟩ : ∃ lo, lo = a + 1 := ⟨_, rfl⟩
      obtain ⟨j, hj⟩ : ∃ j, j = k + 1 := ⟨_, rfl⟩
      have hfk : f k = Ep.sl ins lo b := by rw [HF.out, hlo, ha, hb]
      rw [← ha] at c1 hp hle
      rw [← hb] at c2 hp hle hb1
      rw [← hlo, ← hfk] at hp
      rw [← hlo] at hle
      rw [← hj] at c2 hcc
      have HP := Lib.hid hp
      have HJ := Lib.hid hj
      have hbL : b < L := by rw [HL.out]; exact hb1
      have z1 : (0 : Int) ≤ k := by omega
      have z2 : (k : Int) < cs.length := by omega
      have z3 : IntKind.i64.wrap ((a : Int) + 1) = (lo : Int) := by rw [IntWalk.i64_in _ (by omega)]; omega
      have z4 : IntKind.i64.wrap ((k : Int) + 1) = (j : Int) := by rw [IntWalk.i64_in _ (by omega)]; omega
      have z5 : (0 : Int) ≤ lo := by omega
      have z6 : (lo : Int) ≤ b := by omega
      have z7 : (b : Int) ≤ icap := by omega
      have z8 : ¬ lo = icap := by omega
      have z8' : ¬ icap = lo := by omega
      have z9 : (0 : Int) ≤ j := by omega
      have z10 : (j : Int) < cs.length := by omega
      have hrow := hS.row.1
      have hws := hS.bl.size
      rw [List.length_map, List.length_range] at hrow
      have HROW := Lib.hid hS.row.1
      have HS := Lib.hid hS
      have hbb : (k + 1) * 24 ≤ 140737488355328 := by omega
      have hmx : k + 1 ≤ maxLen := by unfold maxLen; omega
      have ag : (Value.slice ad k cap).ownBlock ≠ some cg := fun e => by have := (hrow.lt cg e).1; omega
      clear hS hp ha hb hlo hfk hj
      go_wp2_with fail
      go_region_held3 (fun w' => w'.cell? ⟨cg, k, none⟩ = some (.int .i64 (a : Int)) ∧ w'.cell? ⟨cg, j, none⟩ = some (.int .i64 (b : Int)))
        (first
          | go_keep
          | (go_split_ands
             refine ⟨?_, ?_⟩
             · (rw [hgrow.cell_far _ (by simp; omega) (Ne.symm ag)]; assumption)
             · (rw [hgrow.cell_far _ (by simp; omega) (Ne.symm ag)]; assumption)))
        ((refine step_append_lies _ (by rfl) _ _ _ (by rfl) w.heap.size 54 i0 _ 1 24 Tryz.underlying86 hi hz0 hz1 hz2 rfl (by omega) (.slice ad k cap) k vs (by rfl) ((hrow.alloc _).drew)
            ⟨wr.heap.size, 0, none⟩ 1 1 [.slice (some ⟨ig, io + lo * 8, none⟩) (b - lo) (icap - lo)] (by rfl) (by rfl) (World.news_of_block (cs := #[.slice (some ⟨ig, io + lo * 8, none⟩) (b - lo) (icap - lo)]) (t := 54) (fr := (0, 0)) (heap_alloc_new wr _)) (by simp [Value.oneCell'])
            (by omega) hmx hbb (by simp; omega) (wr.heap.size + 1) (by simp) ?_; intro gg cap' w4 hown1 hgrow hat hlt4))
      have hfin := HS.out.snoc hcb hkb HP.out (((Below.refl _ wr).alloc (Nat.le_refl _) _).drew) (by rw [List.length_map, List.length_range]; exact hown1) hgrow ((HROW.out.alloc _).drew)
      rw [show (List.range k).map f ++ [f k] = (List.range (k + 1)).map f by rw [List.range_succ, List.map_append]; rfl] at hfin
      have HFIN := Lib.hid hfin
      clear hfin hown1 hgrow hat z3 z4
      go_wp2_with fail
      go_roundw
      case rel => exact ⟨k + 1, _, _, _, rfl, by go_num, by omega, HFIN.out⟩
      case measure => simp [intOf]; omega
    · obtain rfl : k = A := by omega
      have HS := Lib.hid hS
      clear hS
      go_wp2_with fail
      exact shared_end w wr kb m ig io L icap ins cg ccap cs _ vs N k _ _ _ _ _ _ _ _ _ _ _ _ _ _ _ _ _ _ _ _ _ _ _ _ _ _ _ _ _ _ _ _ _ _ _ _ _ _ _ _ _ _ _ _ _ _ _ _ _ _ _ _ _ _ _ _ _ _ _ _ _ _ _ _ _ _ _ _ _ _ _ _ _ _ _ _ _ _ _ _ _ _ _ _ _ _ _ _ (by have := HS.out; rw [HF.out] at this; exact this) HO.out HA.out hAN hN HL.out hic hcb hkb hA1 R HR.out
end Go.Proofs.YtlepnafgcmeimaaGreatDoor
