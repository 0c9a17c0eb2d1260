/- What is proved: how the statements' arguments are opened, and how a call that leaves all old memory alone is closed. -/
import Derived.Test.YtjmbchemdcmegaaRows
import Derived.Test.YtjmbchemdcmegaaLawA
import Derived.ProofKit
import Derived.Deep.Slices
import Derived.Deep.Fields
import Derived.OpenShut
namespace Go.Proofs.Ytjmbchemdcmegaa
open Go.ChangeShapes Go.WideShapes Go.ChangeAt Go.RowKit Go.Deep

theorem Try.own : ownKnob Try.prog.godebug = none := by kernel_rfl
theorem Try.laidOut : laidOutB Try.prog = true := by kernel_rfl
theorem cells3 : Try.prog.cellsOf 3 = 1 := by kernel_rfl

theorem spot_none {w : World} {a : Addr} {v : Value} (h : w.cell? a = some v) : a = ⟨a.block, a.off, none⟩ := by
  obtain ⟨b, o, s⟩ := a
  cases s with
  | none => rfl
  | some s =>
    unfold World.cell? at h
    split at h
    · simp at h
    · cases h

section
variable {H : Type} {enc : TypeId × Value → H}

/-- All arguments read as they did. -/
theorem stays_all {P : Program} (hl : laidOutB P = true) {W W' : World} (hb : Below W.heap.size W W') : ∀ {ts : List TypeId} {vs : List Value} {ds : List (DataW H)} {ps : List MemPlace}, (ts.all fun t => P.readableRec t && decide (t < P.types.size)) = true →
    DataW.TrodAll enc P W 0 (fun _ => true) true ts vs ds ps → (∀ x ∈ ps, x.block < W.heap.size) → DataW.TrodAll enc P W' 0 (fun b => decide (b < W.heap.size)) true ts vs ds ps := by
  intro ts
  induction ts with
  | nil =>
    intro vs ds ps _ h _
    obtain ⟨rfl, rfl, rfl⟩ := trodAll_nil h
    exact trodAll_mk0
  | cons t ts ih =>
    intro vs ds ps hr h hlt
    obtain ⟨v, vs', d, ds', p, q, rfl, rfl, rfl, h0, r0⟩ := trodAll_cons h
    simp only [List.all_cons, Bool.and_eq_true, decide_eq_true_iff] at hr
    exact trodAll_cons_mk (Below.trod hl hr.1.1 hr.1.2 h0 hb fun x hx => hlt x (List.mem_append_left _ hx)) (ih hr.2 r0 fun x hx => hlt x (List.mem_append_right _ hx))

/-- A list of numbers that came in. -/
theorem open_kinds {W : World} {r : Reach} {b0 : Nat} {v : Value} {d : DataW H} {ps : List MemPlace} (hv : Value.okWide Try.prog W r b0 22 v) (h : DataW.Trod enc Try.prog W 0 (fun _ => true) true 22 v d ps) :
    ∃ zs : List Int, IntsA W v zs := by
  obtain ⟨Ad, k, cap, rfl⟩ := okWide_slice Try.underlying22 hv
  obtain ⟨fuel, h⟩ := h
  rcases open_ints Try.underlying22 Try.underlying3 cells3 h with ⟨e, _⟩ | ⟨a, len, cap', zs, hcs, _, hl, hm, hzl, _, hc, _⟩
  · have e' : (Value.slice Ad k cap) = .slice none 0 0 := by simpa [Value.cells] using e
    rw [e']
    exact ⟨[], ⟨none, 0, rfl, Nat.le_refl _, Nat.zero_le _, fun h => by simp at h⟩, .inl ⟨rfl, rfl⟩⟩
  · have e' : (Value.slice Ad k cap) = .slice (some a) len cap' := by simpa [Value.cells] using hcs
    rw [e']
    have hzl' : zs.length = cap' := by simpa using hzl
    have htl : (zs.take len).length = len := by rw [List.length_take]; omega
    refine ⟨zs.take len, ⟨some a, cap', by rw [htl], by rw [htl]; exact hl, hm, fun hp => ?_⟩, .inr ⟨a, len, cap', rfl⟩⟩
    rw [htl] at hp
    have hz := hc 0 (by omega)
    have e0 : a.add 0 = a := by unfold Addr.add; simp
    rw [e0] at hz
    have hsp := spot_none hz
    refine ⟨a.block, a.off, by rw [← hsp], lt_of_cell hz, fun i x hx => ?_⟩
    have hi : i < len := by have := (List.getElem?_eq_some_iff.1 hx).1; omega
    have hci := hc i (by omega)
    rw [hsp, add_none] at hci
    rw [hci]
    rw [List.getElem?_take, if_pos hi] at hx
    rw [List.getD_eq_getElem?_getD, hx]
    rfl

/-- A law that answers true and leaves old memory alone is what its row asks. -/
theorem law_post {f : Func} {s : ChangeSpec} {W W' : World} {args : Array Value} {ds gs : List (DataW H)} {before pa : List MemPlace} (hW : DataW.Whole enc Try.prog f.params.toList s.vars false W args.toList ds gs before)
    (hA : DataW.TrodAll enc Try.prog W 0 (fun _ => true) true f.params.toList args.toList ds pa) (hv : s.vars = []) (hfn : (s.fn H (ds ++ gs)).results = [.lit (.bool true)] ∧ (s.fn H (ds ++ gs)).args = ds ∧ (s.fn H (ds ++ gs)).vars = [])
    (hres : f.resultTypes.toList = [4]) (hr : (f.params.toList.all fun t => Try.prog.readableRec t && decide (t < Try.prog.types.size)) = true) (hpa : ∀ x ∈ pa, x ∈ before) (hbp : ∀ x ∈ before, x ∈ pa) (hb : Below W.heap.size W W') :
    s.post enc Try.prog f false true false false W args (.bool true) W' := by
  have hsz : f.resultTypes.size = 1 := by rw [← Array.length_toList, hres]; rfl
  refine ⟨ds, gs, before, [], pa, [], hW, ?_, ?_, ?_, World.keptBut_mono (fun p hp => ⟨hp, .inr (.inl (hbp p hp))⟩) (hb.frame (· ∈ before)), fun h => by cases h⟩
  · rw [hres, hfn.1, hsz]
    exact trodAll_mk1 (shut_bool Try.underlying4 true)
  · rw [hfn.2.1]
    exact stays_all Try.laidOut hb hr hA fun x hx => hW.lt x (hpa x hx)
  · rw [hv, hfn.2.2]
    rfl
end
end Go.Proofs.Ytjmbchemdcmegaa
