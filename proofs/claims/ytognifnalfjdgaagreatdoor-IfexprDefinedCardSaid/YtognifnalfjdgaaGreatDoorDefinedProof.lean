/- IfexprDefined answers true for every text and every list of texts, the table of signs and the two errors of strconv's holding what their initialisers lay (tied to the program's text): no other condition. -/
import Derived.Deep.Strs
import Derived.Test.YtognifnalfjdgaaGreatDoorGe
import Derived.Test.YtognifnalfjdgaaGreatDoorGl
import Derived.Deep.DeepHandedRow
namespace Go.Proofs.YtognifnalfjdgaaGreatDoor
open Go.ChangeShapes Go.WideShapes Go.ChangeAt Go.RowKit Go.Deep
open Go.ChangeMaps (open_string)

theorem cellsNm : Tryz.prog.cellsOf 9 = 1 := by kernel_rfl
set_option maxRecDepth 100000 in
/-- A list of texts that came in. -/
theorem open_names {H : Type} {enc : TypeId × Value → H} {W : World} {r : Reach} {b0 : Nat} {v : Value} {d : DataW H} {ps : List MemPlace} (hv : Value.okWide Tryz.prog W r b0 30 v) (h : DataW.Trod enc Tryz.prog W 0 (fun _ => true) true 30 v d ps) :
    ∃ ts : List ByteArray, Sts W v ts ∧ ∀ s ∈ ts, s.size ≤ maxLen := by
  obtain ⟨Ad, k, cap, rfl⟩ := okWide_slice Tryz.underlying30 hv
  obtain ⟨fuel, h⟩ := h
  rcases open_strs Tryz.underlying30 Tryz.underlying9 cellsNm h with ⟨e, hx⟩ | ⟨a, len, cap', m, Sx, hcs, _, hl, hmx, hm, hx, hcell⟩
  · have e' : (Value.slice Ad k cap) = .slice none 0 0 := by simpa [Value.cells] using e
    rw [e']
    exact ⟨[], ⟨none, 0, rfl, Nat.le_refl _, Nat.zero_le _, fun i x hx => by simp at hx⟩, fun s hs => by cases hs⟩
  · have e' : (Value.slice Ad k cap) = .slice (some a) len cap' := by simpa [Value.cells] using hcs
    injection e' with e1 e2 e3
    subst e1 e2 e3
    have hm' : m = cap := by simpa using hm
    refine ⟨(List.range k).map Sx, ⟨some a, cap, by simp, by simpa using hl, hmx, fun i x hix => ?_⟩, ?_⟩
    · have hi : i < k := by have := (List.getElem?_eq_some_iff.1 hix).1; simpa using this
      rw [List.getElem?_map, List.getElem?_range hi] at hix
      simp only [Option.map_some, Option.some.injEq] at hix
      subst hix
      have z := (hcell i (by omega)).1
      have hsp : a = ⟨a.block, a.off, none⟩ := by
        have z0 := (hcell 0 (by omega)).1
        have e : a.add 0 = a := by unfold Addr.add; simp
        rw [e] at z0
        exact spot_none z0
      generalize a.block = ab at hsp
      generalize a.off = ao at hsp
      subst hsp
      rw [add_none] at z
      exact ⟨ab, ao, rfl, z⟩
    · intro s hs
      obtain ⟨i, hi, rfl⟩ := List.mem_map.1 hs
      exact (hcell i (by have := List.mem_range.1 hi; omega)).2

set_option maxRecDepth 100000 in
theorem ifexprDefined_lifted (os : Os) (started : os.Started) (H : Type) (enc : TypeId × Value → H) :
    ReturnsInHanded {} Tryz.checked os 5 .any (fun w args => (Rows.ifexprDefinedSpec.pre enc Tryz.prog Tryz.f5 [] false w args ∧ laidMetH Tryz.prog laid1 w) ∧ sizedMet enc Tryz.prog Tryz.f5 (OpenSpec.ofChange Rows.ifexprDefinedSpec) false w args)
      (Rows.ifexprDefinedSpec.post enc Tryz.prog Tryz.f5 false true false false) := by
  refine returns_laid (C := Tryz.checked) Tryz.own started (by kernel_rfl) Tryz.func5
    (ChangeSpec.witness_shaped (enc := enc) (C := Tryz.checked) (os := os) (X := fun w _ => laidMetH Tryz.prog laid1 w) false (World.laidAll Tryz.prog os laid1) #[.string ⟨#[]⟩, .slice none 0 0] 8 (World.laidAll_os _ _ _) (World.shaped_of_ZipB (by kernel_rfl) (by kernel_rfl)) (by kernel_rfl) (by kernel_rfl) (by kernel_rfl) (door_met os _)) ?_
  intro W base args ds gs before hval0 hW hL hsh
  have hval : ∀ (j : Nat) t v, Tryz.f5.params[j]? = some t → args[j]? = some v → Value.okWide Tryz.prog W .any base t v := hval0
  have hW' := hW
  obtain ⟨p, q, hA0, hV, rfl, _, _⟩ := hW
  have hA : DataW.TrodAll enc Tryz.prog W 0 (fun _ => true) true Tryz.f5.params.toList args.toList ds p := hA0
  have hAll := hA
  have hG : Gv W := ⟨glob_of hL hsh, errs_of hL⟩
  rw [Tryz.params5] at hA hval
  obtain ⟨v0, vs0, d0, ds0, p0, q0, hargs, rfl, rfl, h0, r0⟩ := trodAll_cons hA
  obtain ⟨v1, vs1, d1, ds1, p1, q1, rfl, rfl, rfl, h1, r1⟩ := trodAll_cons r0
  obtain ⟨rfl, rfl, rfl⟩ := trodAll_nil r1
  obtain rfl : args = #[v0, v1] := by cases args; simp_all
  obtain ⟨rfl, rfl⟩ := trodVars_none hV
  obtain ⟨s0, rfl, rfl, rfl, ws0⟩ := open_string Tryz.underlying9 (hval 0 9 v0 rfl rfl) h0
  obtain ⟨ts1, hk1, hm1⟩ := open_names (hval 1 30 v1 rfl rfl) h1
  refine (ldefined_any s0 v1 ts1 W hG hk1 hm1).mono fun e W' ⟨he, hb⟩ => ?_
  subst he
  exact ⟨_, rfl, law_post hW' hAll rfl ⟨rfl, rfl, rfl⟩ (by kernel_rfl) (by kernel_rfl) (fun x hx => by simpa using hx) (fun x hx => by simpa using hx) hb⟩

theorem ifexprDefined_row : Rows.IfexprDefinedSaid :=
  OpenClaim.holds_of_wide 5 Tryz.f5 rfl rfl rfl rfl rfl rfl rfl ⟨rfl, rfl, rfl, rfl, rfl⟩ rfl rfl rfl rfl rfl (by kernel_rfl) Tryz.func5 (by kernel_rfl)
    (of_decide_eq_true (by kernel_rfl)) (by unfold Func.isWrapper; first | (rw [if_pos (by decide +kernel)]; kernel_rfl) | (rw [if_neg (by decide +kernel)]; exact ⟨rfl, rfl⟩))
    (fun os started H enc _ => ifexprDefined_lifted os started H enc)

theorem ifexprDefined_holds : Rows.IfexprDefinedCardSaid :=
  Claim7.holds_tied_plain_at .later [] _ _ _ _
    ifexprDefined_row (fun _ h => by cases h) (by kernel_rfl) (fun _ h => by cases h) ifexprDefined_row_tie rfl ⟨rfl, rfl⟩ (by kernel_rfl) rfl
    (fun f fn hf hfn => by
      obtain rfl : f = 5 := Option.some.inj ((show Tryz.prog.funcNamed "emend/emendlaw09.IfexprDefined" = some 5 by kernel_rfl).symm.trans hf) |>.symm
      obtain rfl : fn = Tryz.f5 := (Option.some.inj (Tryz.func5.symm.trans hfn)).symm
      exact ⟨by kernel_rfl, fun j t ht => by
        rw [Tryz.params5] at ht
        have hm : t ∈ [9, 30] := by simpa using Array.mem_of_getElem? ht
        have hall : ([9, 30].all fun u => !Tryz.prog.wantsStandIn u) = true := by kernel_rfl
        exact (show Tryz.prog.wantsStandIn t = false by simpa using List.all_eq_true.1 hall t hm)⟩)
    (by kernel_rfl)

#print axioms ifexprDefined_holds
end Go.Proofs.YtognifnalfjdgaaGreatDoor
