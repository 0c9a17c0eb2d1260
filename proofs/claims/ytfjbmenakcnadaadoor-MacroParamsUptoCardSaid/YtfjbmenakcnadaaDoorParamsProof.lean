/- MacroParams answers true of all names and both bools, where they hold together at most 1048576 values and letters, the table of signs holding what its initialiser lays (tied to the program's text): no other condition. -/
import Derived.Test.YtfjbmenakcnadaaDoorGe
import Derived.Test.YtfjbmenakcnadaaDoorGx
import Derived.Deep.DeepHandedRow
import Derived.Deep.Strs
namespace Go.Proofs.YtfjbmenakcnadaaDoor
open Go.ChangeShapes Go.WideShapes Go.ChangeAt Go.RowKit Go.Deep
open Go.ChangeMaps (open_string)

theorem cellsNm : Tryd.prog.cellsOf 9 = 1 := by kernel_rfl
theorem bulk_sw {H : Type} : ∀ l : List ByteArray, Mx.sw l ≤ 2 * Rows.uptoBulkAll (l.map fun s => (DataW.lit (.string s.data.toList) : DataW H))
  | [] => by simp [Mx.sw]
  | s :: r => by
    have := bulk_sw (H := H) r
    have e : s.data.toList.length = s.size := size_list _
    simp only [List.map_cons, Rows.uptoBulkAll, Rows.uptoBulk, Mx.sw, e]
    omega
set_option maxRecDepth 100000 in
/-- A list of names that came in. -/
theorem open_names {H : Type} {enc : TypeId × Value → H} {W : World} {r : Reach} {b0 : Nat} {v : Value} {d : DataW H} {ps : List MemPlace} (hv : Value.okWide Tryd.prog W r b0 23 v) (h : DataW.Trod enc Tryd.prog W 0 (fun _ => true) true 23 v d ps) :
    ∃ ts : List ByteArray, Sts W v ts ∧ Mx.sw ts ≤ 2 * Rows.uptoBulk d := by
  obtain ⟨Ad, k, cap, rfl⟩ := okWide_slice Tryd.underlying23 hv
  obtain ⟨fuel, h⟩ := h
  rcases open_strs Tryd.underlying23 Tryd.underlying9 cellsNm h with ⟨e, hx⟩ | ⟨a, len, cap', m, Sx, hcs, _, hl, hmx, hm, hx, hcell⟩
  · have e' : (Value.slice Ad k cap) = .slice none 0 0 := by simpa [Value.cells] using e
    rw [e']
    exact ⟨[], ⟨none, 0, rfl, Nat.le_refl _, Nat.zero_le _, fun i x hx => by simp at hx⟩, by simp [Mx.sw]⟩
  · have e' : (Value.slice Ad k cap) = .slice (some a) len cap' := by simpa [Value.cells] using hcs
    injection e' with e1 e2 e3
    subst e1 e2 e3
    have hm' : m = cap := by simpa using hm
    refine ⟨(List.range k).map Sx, ⟨some a, cap, by simp, by simpa using hl, hmx, fun i x hix => ?_⟩, ?_⟩
    · have hi : i < k := by have := (List.getElem?_eq_some_iff.1 hix).1; simpa using this
      rw [List.getElem?_map, List.getElem?_range hi] at hix
      simp only [Option.map_some, Option.some.injEq] at hix
      subst hix
      have z := (hcell i (by omega)).1
      have hsp : a = ⟨a.block, a.off, none⟩ := by
        have z0 := (hcell 0 (by omega)).1
        have e : a.add 0 = a := by unfold Addr.add; simp
        rw [e] at z0
        exact spot_none z0
      generalize a.block = ab at hsp
      generalize a.off = ao at hsp
      subst hsp
      rw [add_none] at z
      exact ⟨ab, ao, rfl, z⟩
    · have hd : d = .slice ((List.range k).map fun i => .lit (.string (Sx i).data.toList)) ((List.range (m - k)).map fun j => .lit (.string (Sx (k + j)).data.toList)) := congrArg Prod.fst hx
      have := bulk_sw (H := H) ((List.range k).map Sx)
      rw [List.map_map] at this
      rw [hd]
      simp only [Rows.uptoBulk]
      rw [show ((fun s : ByteArray => (DataW.lit (.string s.data.toList) : DataW H)) ∘ Sx) = fun i => .lit (.string (Sx i).data.toList) from rfl] at this
      omega

theorem macroParams_reads (os : Os) {H : Type} (enc : TypeId × Value → H) : ∃ places, DataW.whole enc Tryd.prog ((World.doorLaid Tryd.prog 14 os).forCall (fun _ _ => 0) ⟨#[], #[.slice none 0 0, .bool false], []⟩).memory Tryd.f8.params.toList Rows.macroParamsSpec.vars false #[(.slice none 0 0 : Value), (.bool false : Value)].toList 8 = some ([.nil, .lit (.bool false)], [], places) :=
  ⟨[], by kernel_rfl⟩
set_option maxRecDepth 100000 in
theorem macroParams_lifted (os : Os) (started : os.Started) (H : Type) (enc : TypeId × Value → H) (F : Stop.Interp) :
    ReturnsInHanded {} Tryd.checked os 8 .any ((Rows.OpenSpec.upto Rows.macroParamsSpec).preRow enc Tryd.prog Tryd.f8 Rows.macroParamsUptoRow.domain false Rows.macroParamsUptoRow.laid) (((Rows.OpenSpec.upto Rows.macroParamsSpec).at F).post enc Tryd.prog Tryd.f8 false true false false) := by
  obtain ⟨places, hx⟩ := macroParams_reads os enc
  refine returnsInHanded_of_row (C := Tryd.checked) (s := Rows.OpenSpec.upto Rows.macroParamsSpec) Tryd.own started (by kernel_rfl) Tryd.func8
    (witness_row_at (enc := enc) (C := Tryd.checked) false (World.doorLaid Tryd.prog 14 os) #[.slice none 0 0, .bool false] rfl (by kernel_rfl) (by kernel_rfl) (by kernel_rfl)
      (OpenSpec.preRow_of_cond 8 hx (by kernel_rfl) (fun k hk => by cases hk; kernel_rfl) (by kernel_rfl) (door_met os _))) ?_
  intro W base args ds gs before hval0 hW _ hcond _ hL hsh _
  have hval : ∀ (j : Nat) t v, Tryd.f8.params[j]? = some t → args[j]? = some v → Value.okWide Tryd.prog W .any base t v := hval0
  have hW' := hW
  obtain ⟨p, q, hA0, hV, rfl, _, _⟩ := hW
  have hA : DataW.TrodAll enc Tryd.prog W 0 (fun _ => true) true Tryd.f8.params.toList args.toList ds p := hA0
  have hAll := hA
  have hG : Glob W := glob_of hL hsh
  have hbk : Rows.uptoBulkAll (ds ++ gs) ≤ 1048576 := of_decide_eq_true (hcond _ rfl)
  rw [Tryd.params8] at hA hval
  obtain ⟨v0, vs0, d0, ds0, p0, q0, hargs, rfl, rfl, h0, r0⟩ := trodAll_cons hA
  obtain ⟨v1, vs1, d1, ds1, p1, q1, rfl, rfl, rfl, h1, r1⟩ := trodAll_cons r0
  obtain ⟨rfl, rfl, rfl⟩ := trodAll_nil r1
  obtain rfl : args = #[v0, v1] := by cases args; simp_all
  obtain ⟨rfl, rfl⟩ := trodVars_none hV
  simp only [List.append_nil, Rows.uptoBulkAll] at hbk
  obtain ⟨ts0, hk0, hl0⟩ := open_names (hval 0 23 v0 rfl rfl) h0
  obtain ⟨b1, rfl, rfl, rfl⟩ := open_bool Tryd.underlying4 (hval 1 4 v1 rfl rfl) h1
  refine (lparams_any v0 b1 ts0 W hk0 (by omega) hG).mono fun e W' ⟨he, hb⟩ => ?_
  subst he
  exact ⟨_, rfl, law_post (s := Rows.macroParamsSpec) hW' hAll rfl ⟨rfl, rfl, rfl⟩ (by kernel_rfl) (by kernel_rfl) (fun x hx => by simpa using hx) (fun x hx => by simpa using hx) hb⟩

theorem macroParams_row : Rows.MacroParamsUptoSaid :=
  OpenClaim.holds_of_cond 8 Tryd.f8 rfl rfl rfl rfl rfl rfl rfl ⟨rfl, rfl, rfl, rfl, rfl⟩ rfl rfl rfl rfl rfl (by kernel_rfl) Tryd.func8 (by kernel_rfl)
    (of_decide_eq_true (by kernel_rfl)) (by unfold Func.isWrapper; first | (rw [if_pos (by decide +kernel)]; kernel_rfl) | (rw [if_neg (by decide +kernel)]; exact ⟨rfl, rfl⟩))
    (fun os started H enc _ F => by rw [OpenClaim.pre_eq_preRow]; exact macroParams_lifted os started H enc F)

theorem macroParams_holds : Rows.MacroParamsUptoCardSaid :=
  Claim7.holds_tied_plain_at .later [] _ _ _ _
    macroParams_row (fun _ h => by cases h) (by kernel_rfl) (fun _ h => by cases h) macroParamsUpto_row_tie rfl ⟨rfl, rfl⟩ (by kernel_rfl) rfl
    (fun f fn hf hfn => by
      obtain rfl : f = 8 := Option.some.inj ((show Tryd.prog.funcNamed "emend/emendlaw06.MacroParams" = some 8 by kernel_rfl).symm.trans hf) |>.symm
      obtain rfl : fn = Tryd.f8 := (Option.some.inj (Tryd.func8.symm.trans hfn)).symm
      exact ⟨by kernel_rfl, fun j t ht => by
        rw [Tryd.params8] at ht
        have hm : t ∈ [23, 4] := by simpa using Array.mem_of_getElem? ht
        have hall : ([23, 4].all fun u => !Tryd.prog.wantsStandIn u) = true := by kernel_rfl
        exact (show Tryd.prog.wantsStandIn t = false by simpa using List.all_eq_true.1 hall t hm)⟩)
    (by kernel_rfl)

#print axioms macroParams_holds
end Go.Proofs.YtfjbmenakcnadaaDoor
