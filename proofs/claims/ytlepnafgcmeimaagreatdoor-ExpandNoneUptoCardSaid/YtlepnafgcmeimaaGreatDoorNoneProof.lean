/- ExpandNone answers true of every list of texts and every text, where they hold together at most 1048576 values and letters, the tables of signs and of utf8 holding what their initialisers lay (tied to the program's text): no other condition. -/
import Derived.Test.YtlepnafgcmeimaaGreatDoorGe
import Derived.Test.YtlepnafgcmeimaaGreatDoorGs
import Derived.Deep.DeepHandedRow
import Derived.Deep.Strs
namespace Go.Proofs.YtlepnafgcmeimaaGreatDoor
open Go.ChangeShapes Go.WideShapes Go.ChangeAt Go.RowKit Go.Deep
open Go.ChangeMaps (open_string)

theorem cellsNm : Tryz.prog.cellsOf 9 = 1 := by kernel_rfl
theorem bulk_names {H : Type} : ∀ l : List ByteArray, l.length ≤ Rows.uptoBulkAll (l.map fun s => (DataW.lit (.string s.data.toList) : DataW H)) ∧ ∀ s ∈ l, s.size ≤ Rows.uptoBulkAll (l.map fun s => (DataW.lit (.string s.data.toList) : DataW H))
  | [] => ⟨Nat.zero_le _, fun s hs => by cases hs⟩
  | s :: r => by
    obtain ⟨h1, h2⟩ := bulk_names (H := H) r
    have e : s.data.toList.length = s.size := size_list _
    simp only [List.map_cons, Rows.uptoBulkAll, Rows.uptoBulk, List.length_cons, e]
    refine ⟨by omega, fun x hx => ?_⟩
    rcases List.mem_cons.1 hx with rfl | hx
    · omega
    · have := h2 x hx; omega
set_option maxRecDepth 100000 in
/-- A list of texts that came in. -/
theorem open_names {H : Type} {enc : TypeId × Value → H} {W : World} {r : Reach} {b0 : Nat} {v : Value} {d : DataW H} {ps : List MemPlace} (hv : Value.okWide Tryz.prog W r b0 22 v) (h : DataW.Trod enc Tryz.prog W 0 (fun _ => true) true 22 v d ps) :
    ∃ ts : List ByteArray, Sts W v ts ∧ ts.length ≤ Rows.uptoBulk d ∧ ∀ s ∈ ts, s.size ≤ Rows.uptoBulk d := by
  obtain ⟨Ad, k, cap, rfl⟩ := okWide_slice Tryz.underlying22 hv
  obtain ⟨fuel, h⟩ := h
  rcases open_strs Tryz.underlying22 Tryz.underlying9 cellsNm h with ⟨e, hx⟩ | ⟨a, len, cap', m, Sx, hcs, _, hl, hmx, hm, hx, hcell⟩
  · have e' : (Value.slice Ad k cap) = .slice none 0 0 := by simpa [Value.cells] using e
    rw [e']
    exact ⟨[], ⟨none, 0, rfl, Nat.le_refl _, Nat.zero_le _, fun i x hx => by simp at hx⟩, Nat.zero_le _, fun s hs => by cases hs⟩
  · have e' : (Value.slice Ad k cap) = .slice (some a) len cap' := by simpa [Value.cells] using hcs
    injection e' with e1 e2 e3
    subst e1 e2 e3
    have hm' : m = cap := by simpa using hm
    refine ⟨(List.range k).map Sx, ⟨some a, cap, by simp, by simpa using hl, hmx, fun i x hix => ?_⟩, ?_⟩
    · have hi : i < k := by have := (List.getElem?_eq_some_iff.1 hix).1; simpa using this
      rw [List.getElem?_map, List.getElem?_range hi] at hix
      simp only [Option.map_some, Option.some.injEq] at hix
      subst hix
      have z := (hcell i (by omega)).1
      have hsp : a = ⟨a.block, a.off, none⟩ := by
        have z0 := (hcell 0 (by omega)).1
        have e : a.add 0 = a := by unfold Addr.add; simp
        rw [e] at z0
        exact spot_none z0
      generalize a.block = ab at hsp
      generalize a.off = ao at hsp
      subst hsp
      rw [add_none] at z
      exact ⟨ab, ao, rfl, z⟩
    · have hd : d = .slice ((List.range k).map fun i => .lit (.string (Sx i).data.toList)) ((List.range (m - k)).map fun j => .lit (.string (Sx (k + j)).data.toList)) := congrArg Prod.fst hx
      have hb := bulk_names (H := H) ((List.range k).map Sx)
      rw [List.map_map] at hb
      rw [hd]
      simp only [Rows.uptoBulk]
      rw [show ((fun s : ByteArray => (DataW.lit (.string s.data.toList) : DataW H)) ∘ Sx) = fun i => .lit (.string (Sx i).data.toList) from rfl] at hb
      exact ⟨by omega, fun s hs => by have := hb.2 s hs; omega⟩

theorem expandNone_reads (os : Os) {H : Type} (enc : TypeId × Value → H) : ∃ places, DataW.whole enc Tryz.prog ((World.laidAll Tryz.prog os laid1).forCall (fun _ _ => 0) ⟨#[], #[.slice none 0 0, .string ⟨#[]⟩], []⟩).memory Tryz.f3.params.toList Rows.expandNoneSpec.vars false #[(.slice none 0 0 : Value), (.string ⟨#[]⟩ : Value)].toList 8 = some ([.nil, .lit (.string [])], [], places) :=
  ⟨[], by kernel_rfl⟩
set_option maxRecDepth 100000 in
theorem expandNone_lifted (os : Os) (started : os.Started) (H : Type) (enc : TypeId × Value → H) (F : Stop.Interp) :
    ReturnsInHanded {} Tryz.checked os 3 .any ((Rows.OpenSpec.upto Rows.expandNoneSpec).preRow enc Tryz.prog Tryz.f3 Rows.expandNoneUptoRow.domain false Rows.expandNoneUptoRow.laid) (((Rows.OpenSpec.upto Rows.expandNoneSpec).at F).post enc Tryz.prog Tryz.f3 false true false false) := by
  obtain ⟨places, hx⟩ := expandNone_reads os enc
  refine returnsInHanded_of_row (C := Tryz.checked) (s := Rows.OpenSpec.upto Rows.expandNoneSpec) Tryz.own started (by kernel_rfl) Tryz.func3
    (witness_row_at (enc := enc) (C := Tryz.checked) false (World.laidAll Tryz.prog os laid1) #[.slice none 0 0, .string ⟨#[]⟩] (World.laidAll_os _ _ _) (by kernel_rfl) (by kernel_rfl) (by kernel_rfl)
      (OpenSpec.preRow_of_cond 8 hx (by kernel_rfl) (fun k hk => by cases hk; kernel_rfl) (by kernel_rfl) (door_met os _))) ?_
  intro W base args ds gs before hval0 hW _ hcond _ hL hsh _
  have hval : ∀ (j : Nat) t v, Tryz.f3.params[j]? = some t → args[j]? = some v → Value.okWide Tryz.prog W .any base t v := hval0
  have hW' := hW
  obtain ⟨p, q, hA0, hV, rfl, _, _⟩ := hW
  have hA : DataW.TrodAll enc Tryz.prog W 0 (fun _ => true) true Tryz.f3.params.toList args.toList ds p := hA0
  have hAll := hA
  have hG : Glob W := glob_of hL hsh
  have hbk : Rows.uptoBulkAll (ds ++ gs) ≤ 1048576 := of_decide_eq_true (hcond _ rfl)
  rw [Tryz.params3] at hA hval
  obtain ⟨v0, vs0, d0, ds0, p0, q0, hargs, rfl, rfl, h0, r0⟩ := trodAll_cons hA
  obtain ⟨v1, vs1, d1, ds1, p1, q1, rfl, rfl, rfl, h1, r1⟩ := trodAll_cons r0
  obtain ⟨rfl, rfl, rfl⟩ := trodAll_nil r1
  obtain rfl : args = #[v0, v1] := by cases args; simp_all
  obtain ⟨rfl, rfl⟩ := trodVars_none hV
  simp only [List.append_nil, Rows.uptoBulkAll] at hbk
  obtain ⟨ts0, hk0, hl0, hm0⟩ := open_names (hval 0 22 v0 rfl rfl) h0
  obtain ⟨s1, rfl, rfl, rfl, ws1⟩ := open_string Tryz.underlying9 (hval 1 9 v1 rfl rfl) h1
  simp only [Rows.uptoBulk, Array.length_toList] at hbk
  have hs1 : s1.size ≤ 1048576 := by have : s1.data.size = s1.size := rfl; omega
  refine (lnone_any v0 ts0 s1 W hG hk0 (by omega) (fun d hd => by have := hm0 d hd; omega) (by omega)).mono fun e W' ⟨he, hb⟩ => ?_
  subst he
  exact ⟨_, rfl, law_post (s := Rows.expandNoneSpec) hW' hAll rfl ⟨rfl, rfl, rfl⟩ (by kernel_rfl) (by kernel_rfl) (fun x hx => by simpa using hx) (fun x hx => by simpa using hx) hb⟩

theorem expandNone_row : Rows.ExpandNoneUptoSaid :=
  OpenClaim.holds_of_cond 3 Tryz.f3 rfl rfl rfl rfl rfl rfl rfl ⟨rfl, rfl, rfl, rfl, rfl⟩ rfl rfl rfl rfl rfl (by kernel_rfl) Tryz.func3 (by kernel_rfl)
    (of_decide_eq_true (by kernel_rfl)) (by unfold Func.isWrapper; first | (rw [if_pos (by decide +kernel)]; kernel_rfl) | (rw [if_neg (by decide +kernel)]; exact ⟨rfl, rfl⟩))
    (fun os started H enc _ F => by rw [OpenClaim.pre_eq_preRow]; exact expandNone_lifted os started H enc F)

theorem expandNone_holds : Rows.ExpandNoneUptoCardSaid :=
  Claim7.holds_tied_plain_at .later [] _ _ _ _
    expandNone_row (fun _ h => by cases h) (by kernel_rfl) (fun _ h => by cases h) expandNoneUpto_row_tie rfl ⟨rfl, rfl⟩ (by kernel_rfl) rfl
    (fun f fn hf hfn => by
      obtain rfl : f = 3 := Option.some.inj ((show Tryz.prog.funcNamed "emend/emendlaw08.ExpandNone" = some 3 by kernel_rfl).symm.trans hf) |>.symm
      obtain rfl : fn = Tryz.f3 := (Option.some.inj (Tryz.func3.symm.trans hfn)).symm
      exact ⟨by kernel_rfl, fun j t ht => by
        rw [Tryz.params3] at ht
        have hm : t ∈ [22, 9] := by simpa using Array.mem_of_getElem? ht
        have hall : ([22, 9].all fun u => !Tryz.prog.wantsStandIn u) = true := by kernel_rfl
        exact (show Tryz.prog.wantsStandIn t = false by simpa using List.all_eq_true.1 hall t hm)⟩)
    (by kernel_rfl)

#print axioms expandNone_holds
end Go.Proofs.YtlepnafgcmeimaaGreatDoor
