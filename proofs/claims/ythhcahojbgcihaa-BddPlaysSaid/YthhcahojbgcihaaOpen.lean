/- What is proved: how the statements' arguments are opened, and how a call that leaves all old memory alone is closed. -/
import Derived.Test.YthhcahojbgcihaaRows
import Derived.Test.YthhcahojbgcihaaBu1
import Derived.ProofKit
import Derived.Deep.Slices
import Derived.Deep.Fields
import Derived.OpenShut
namespace Go.Proofs.Ythhcahojbgcihaa
open Go.ChangeShapes Go.WideShapes Go.ChangeAt Go.RowKit Go.Deep Bd

theorem Try.own : ownKnob Try.prog.godebug = none := by kernel_rfl
theorem Try.laidOut : laidOutB Try.prog = true := by kernel_rfl

theorem wf_in {c : Int} (h : (Lit.int .i64 c).wf = true) : inI64 c := by
  simp only [Lit.wf, Bool.and_eq_true, decide_eq_true_iff] at h
  exact h

section
variable {H : Type} {enc : TypeId × Value → H}

/-- All arguments read as they did. -/
theorem stays_all {P : Program} (hl : laidOutB P = true) {W W' : World} (hb : Below W.heap.size W W') : ∀ {ts : List TypeId} {vs : List Value} {ds : List (DataW H)} {ps : List MemPlace}, (ts.all fun t => P.readableRec t && decide (t < P.types.size)) = true →
    DataW.TrodAll enc P W 0 (fun _ => true) true ts vs ds ps → (∀ x ∈ ps, x.block < W.heap.size) → DataW.TrodAll enc P W' 0 (fun b => decide (b < W.heap.size)) true ts vs ds ps := by
  intro ts
  induction ts with
  | nil =>
    intro vs ds ps _ h _
    obtain ⟨rfl, rfl, rfl⟩ := trodAll_nil h
    exact trodAll_mk0
  | cons t ts ih =>
    intro vs ds ps hr h hlt
    obtain ⟨v, vs', d, ds', p, q, rfl, rfl, rfl, h0, r0⟩ := trodAll_cons h
    simp only [List.all_cons, Bool.and_eq_true, decide_eq_true_iff] at hr
    exact trodAll_cons_mk (Below.trod hl hr.1.1 hr.1.2 h0 hb fun x hx => hlt x (List.mem_append_left _ hx)) (ih hr.2 r0 fun x hx => hlt x (List.mem_append_right _ hx))

theorem add_none (b o j : Nat) : (⟨b, o, none⟩ : Addr).add j = ⟨b, o + j, none⟩ := by
  unfold Addr.add
  split
  · rename_i e; subst e; rfl
  · rfl

theorem spot_none {w : World} {a : Addr} {v : Value} (h : w.cell? a = some v) : a = ⟨a.block, a.off, none⟩ := by
  obtain ⟨b, o, s⟩ := a
  cases s with
  | none => rfl
  | some s =>
    unfold World.cell? at h
    split at h
    · simp at h
    · cases h

theorem underlying3 : Try.prog.underlying 3 = some (.int .i64) := Try.underlying3
theorem cells61 : Try.prog.cellsOf 61 = 6 := by kernel_rfl
theorem cells3 : Try.prog.cellsOf 3 = 1 := by kernel_rfl
theorem cells4 : Try.prog.cellsOf 4 = 1 := by kernel_rfl

/-- What an op reads as, if that is one. -/
def opOfCells : List Value → OpV
  | [.int _ D, .int _ A, .int _ Bb, .int _ C, .int _ N, .bool To] => ⟨D, A, Bb, C, N, To⟩
  | _ => ⟨0, 0, 0, 0, 0, false⟩

theorem open_op {W : World} {base fuel : Nat} {sp : Nat → Bool} {hd : Bool} {cs : List Value} {x : DataW H × List MemPlace} (h : DataW.trod enc Try.prog W base sp hd fuel 61 cs = some x) :
    ∃ D A Bb C N To, cs = [.int .i64 D, .int .i64 A, .int .i64 Bb, .int .i64 C, .int .i64 N, .bool To] ∧ inI64 A ∧ inI64 Bb ∧ inI64 C := by
  obtain ⟨ys, n, _, _, hl, hyl, hf⟩ := DataW.trod_struct Try.underlying61 h
  rw [cells61] at hl
  match cs, hl with
  | [c0, c1, c2, c3, c4, c5], _ =>
    have get : ∀ (i : Nat), i < ys.length → ∃ y, ys[i]? = some y := fun i hi => ⟨_, List.getElem?_eq_getElem hi⟩
    have e : ys.length = 6 := hyl
    obtain ⟨y0, e0⟩ := get 0 (by omega)
    obtain ⟨y1, e1⟩ := get 1 (by omega)
    obtain ⟨y2, e2⟩ := get 2 (by omega)
    obtain ⟨y3, e3⟩ := get 3 (by omega)
    obtain ⟨y4, e4⟩ := get 4 (by omega)
    obtain ⟨y5, e5⟩ := get 5 (by omega)
    have f0 := (hf 0 _ rfl).trans e0
    have f1 := (hf 1 _ rfl).trans e1
    have f2 := (hf 2 _ rfl).trans e2
    have f3 := (hf 3 _ rfl).trans e3
    have f4 := (hf 4 _ rfl).trans e4
    have f5 := (hf 5 _ rfl).trans e5
    obtain ⟨D, g0, _, _⟩ := DataW.trod_int Try.underlying3 f0
    obtain ⟨A, g1, _, w1⟩ := DataW.trod_int Try.underlying3 f1
    obtain ⟨Bb, g2, _, w2⟩ := DataW.trod_int Try.underlying3 f2
    obtain ⟨C, g3, _, w3⟩ := DataW.trod_int Try.underlying3 f3
    obtain ⟨N, g4, _, _⟩ := DataW.trod_int Try.underlying3 f4
    obtain ⟨To, g5, _⟩ := DataW.trod_bool Try.underlying4 f5
    simp [cells3, cells4] at g0 g1 g2 g3 g4 g5
    exact ⟨D, A, Bb, C, N, To, by rw [g0, g1, g2, g3, g4, g5], wf_in w1, wf_in w2, wf_in w3⟩

theorem open_ops {W : World} {r : Reach} {b0 : Nat} {v : Value} {d : DataW H} {ps : List MemPlace} (hv : Value.okWide Try.prog W r b0 22 v) (h : DataW.Trod enc Try.prog W 0 (fun _ => true) true 22 v d ps) :
    ∃ Ad k cap F, v = .slice Ad k cap ∧ OpsAt W Ad k F := by
  obtain ⟨Ad, k, cap, rfl⟩ := okWide_slice Try.underlying22 hv
  refine ⟨Ad, k, cap, ?_⟩
  obtain ⟨fuel, h⟩ := h
  rcases open_slice Try.underlying22 h with ⟨e, _⟩ | ⟨a, len, cap', m, n, D, Pl, hcs, _, hl, _, hm, _, hx⟩
  · have e' : (Value.slice Ad k cap) = .slice none 0 0 := by simpa [Value.cells] using e
    injection e' with e1 e2 e3
    subst e2
    exact ⟨fun _ => ⟨0, 0, 0, 0, 0, false⟩, rfl, fun i hi => by omega⟩
  · have e' : (Value.slice Ad k cap) = .slice (some a) len cap' := by simpa [Value.cells] using hcs
    injection e' with e1 e2 e3
    subst e1 e2 e3
    have hm' : m = cap := by simpa using hm
    refine ⟨fun i => opOfCells ((W.cells? 0 (a.add (i * 6)) 6).getD []), rfl, fun i hi => ?_⟩
    obtain ⟨cs', hc, ht⟩ := hx i (by omega)
    rw [cells61] at hc
    obtain ⟨D', A, Bb, C, N, To, hcs', r1, r2, r3⟩ := open_op ht
    have hF : opOfCells ((W.cells? 0 (a.add (i * 6)) 6).getD []) = ⟨D', A, Bb, C, N, To⟩ := by rw [hc, hcs']; rfl
    obtain ⟨_, _, hat⟩ := World.cells?_some hc
    have q0 := hat 0 (by omega)
    have q1 := hat 1 (by omega)
    have q2 := hat 2 (by omega)
    have q3 := hat 3 (by omega)
    have q4 := hat 4 (by omega)
    have q5 := hat 5 (by omega)
    rw [hcs', Go.Deep.add_add] at q0 q1 q2 q3 q4 q5
    simp only [List.getElem?_cons_zero, List.getElem?_cons_succ] at q0 q1 q2 q3 q4 q5
    have hsp : a = ⟨a.block, a.off, none⟩ := by
      obtain ⟨cs0, hc0, ht0⟩ := hx 0 (by omega)
      rw [cells61] at hc0
      obtain ⟨D0, A0, B0, C0, N0, T0, hcs0, _⟩ := open_op ht0
      obtain ⟨_, _, hat0⟩ := World.cells?_some hc0
      have z := hat0 0 (by omega)
      rw [hcs0, Go.Deep.add_add] at z
      simp only [Nat.zero_mul, Nat.add_zero, List.getElem?_cons_zero] at z
      have e : a.add 0 = a := by unfold Addr.add; simp
      rw [e] at z
      exact spot_none z
    generalize a.block = ab at hsp
    generalize a.off = ao at hsp
    subst hsp
    rw [add_none] at q0 q1 q2 q3 q4 q5
    dsimp only
    rw [hF]
    refine ⟨ab, ao, rfl, ?_, q0, q1, q2, q3, q4, q5, r1, r2, r3⟩
    unfold World.cell? at q0
    rcases Nat.lt_or_ge ab W.heap.size with hlt | hge
    · exact hlt
    · rw [Array.getElem?_eq_none hge] at q0; cases q0

/-- A law that answers true and leaves old memory alone is what its row asks. -/
theorem law_post {f : Func} {s : ChangeSpec} {W W' : World} {args : Array Value} {ds gs : List (DataW H)} {before pa : List MemPlace} (hW : DataW.Whole enc Try.prog f.params.toList s.vars false W args.toList ds gs before)
    (hA : DataW.TrodAll enc Try.prog W 0 (fun _ => true) true f.params.toList args.toList ds pa) (hv : s.vars = []) (hfn : (s.fn H (ds ++ gs)).results = [.lit (.bool true)] ∧ (s.fn H (ds ++ gs)).args = ds ∧ (s.fn H (ds ++ gs)).vars = [])
    (hres : f.resultTypes.toList = [4]) (hr : (f.params.toList.all fun t => Try.prog.readableRec t && decide (t < Try.prog.types.size)) = true) (hpa : ∀ x ∈ pa, x ∈ before) (hbp : ∀ x ∈ before, x ∈ pa) (hb : Below W.heap.size W W') :
    s.post enc Try.prog f false true false false W args (.bool true) W' := by
  have hsz : f.resultTypes.size = 1 := by rw [← Array.length_toList, hres]; rfl
  refine ⟨ds, gs, before, [], pa, [], hW, ?_, ?_, ?_, World.keptBut_mono (fun p hp => ⟨hp, .inr (.inl (hbp p hp))⟩) (hb.frame (· ∈ before)), fun h => by cases h⟩
  · rw [hres, hfn.1, hsz]
    exact trodAll_mk1 (shut_bool Try.underlying4 true)
  · rw [hfn.2.1]
    exact stays_all Try.laidOut hb hr hA fun x hx => hW.lt x (hpa x hx)
  · rw [hv, hfn.2.2]
    rfl
end
end Go.Proofs.Ythhcahojbgcihaa
