/- PresenceBoth answers true for every list of texts and every two texts, the tables of signs and of words, the two errors of strconv's and the number tables holding what their initialisers lay (tied to the program's text): no other condition. -/
import Derived.Test.YthekfpgegiffoaaGreatDoorQb
import Derived.Test.YthekfpgegiffoaaGreatDoorQzb
import Derived.Deep.DeepHandedRow
set_option linter.unusedVariables false
set_option linter.unusedSimpArgs false
set_option maxRecDepth 100000
set_option maxHeartbeats 16000000
namespace Go.Proofs.YthekfpgegiffoaaGreatDoor
open Go.ChangeShapes Go.WideShapes Go.ChangeAt Go.RowKit Go.Deep
open Go.ChangeMaps (open_string)
theorem presenceBoth_lifted (os : Os) (started : os.Started) (H : Type) (enc : TypeId × Value → H) :
  ReturnsInHanded {} Tryz.checked os 7 .any (fun w args => (Rows.presenceBothSpec.pre enc Tryz.prog Tryz.f7 [] false w args ∧ laidMetH Tryz.prog laid1 w) ∧ sizedMet enc Tryz.prog Tryz.f7 (OpenSpec.ofChange Rows.presenceBothSpec) false w args)
   (Rows.presenceBothSpec.post enc Tryz.prog Tryz.f7 false true false false):=by
 refine returns_laid (C:=Tryz.checked) Tryz.own started (by kernel_rfl) Tryz.func7
  (ChangeSpec.witness_shaped (enc:=enc) (C:=Tryz.checked) (os:=os) (X:=fun w _ => laidMetH Tryz.prog laid1 w) false (World.laidAll Tryz.prog os laid1) #[.slice none 0 0, .string ⟨#[]⟩, .string ⟨#[]⟩] 8 (World.laidAll_os _ _ _) (World.shaped_of_ZipB (by kernel_rfl) (by kernel_rfl)) (by kernel_rfl) (by kernel_rfl) (by kernel_rfl) (door_met os _)) ?_
 intro W base args ds gs before hval0 hW hL hsh
 have hval : ∀ (j : Nat) t v,Tryz.f7.params[j]? = some t → args[j]? = some v → Value.okWide Tryz.prog W .any base t v:=hval0
 have hW':=hW
 obtain ⟨p,q,hA0,hV,rfl,_,_⟩:=hW
 have hA : DataW.TrodAll enc Tryz.prog W 0 (fun _ => true) true Tryz.f7.params.toList args.toList ds p:=hA0
 have hAll:=hA
 have hG : Gv W:=⟨glob_of hL hsh,errs_of hL⟩
 rw [Tryz.params7] at hA hval
 obtain ⟨v0,vs0,d0,ds0,p0,q0,hargs,rfl,rfl,h0,r0⟩:=trodAll_cons hA
 obtain ⟨v1,vs1,d1,ds1,p1,q1,rfl,rfl,rfl,h1,r1⟩:=trodAll_cons r0
 obtain ⟨v2,vs2,d2,ds2,p2,q2,rfl,rfl,rfl,h2,r2⟩:=trodAll_cons r1
 obtain ⟨rfl,rfl,rfl⟩:=trodAll_nil r2
 obtain rfl : args = #[v0,v1,v2]:=by cases args; simp_all
 obtain ⟨rfl,rfl⟩:=trodVars_none hV
 obtain ⟨ts0,hk0,hm0⟩:=open_names (hval 0 22 v0 rfl rfl) h0
 obtain ⟨s1,rfl,rfl,rfl,ws1⟩:=open_string Tryz.underlying9 (hval 1 9 v1 rfl rfl) h1
 obtain ⟨s2,rfl,rfl,rfl,ws2⟩:=open_string Tryz.underlying9 (hval 2 9 v2 rfl rfl) h2
 refine (lboth_any v0 ts0 s1 s2 ws1 ws2 W hG hk0).mono fun e W' ⟨he,hb⟩ => ?_
 subst he
 exact ⟨_,rfl,law_post hW' hAll rfl ⟨rfl,rfl,rfl⟩ (by kernel_rfl) (by kernel_rfl) (fun x hx => by simpa using hx) (fun x hx => by simpa using hx) hb⟩
theorem presenceBoth_f0 : Tryz.prog.funcNamed "emend/emendlaw12.PresenceBoth" = some 7:=by kernel_rfl
theorem presenceBoth_f1 : (Rows.presenceBothRow.inPlace == Tryz.prog.inPlace 7) = true:=by kernel_rfl
theorem presenceBoth_f2 : (Rows.presenceBothRow.unfollowed == Tryz.prog.unfollowed 7) = true:=by kernel_rfl
theorem presenceBoth_f3 : (Rows.presenceBothRow.recurses == Tryz.prog.recurses 7) = true:=by kernel_rfl
theorem presenceBoth_f4 : (Rows.presenceBothRow.named == Tryz.prog.varsNamed 7) = true:=by kernel_rfl
theorem presenceBoth_f5 : true = Tryz.prog.looks []:=by kernel_rfl
theorem presenceBoth_f6 : Tryz.prog.mainIs = some (true,"6576a81339863aa0fe626058e1aed0e5988521277cbdfa86bbc9f886c3f5d5cc".toList):=by kernel_rfl
theorem presenceBoth_f7 : false = Rows.presenceBothRow.goesBy Tryz.prog:=by kernel_rfl
theorem presenceBoth_and {a b : Bool} (ha : a = true) (hb : b = true) : (a && b) = true:=by rw [ha,hb]; rfl
theorem presenceBoth_closed : joinedFacts Tryz.prog 7 Tryz.f7 Rows.presenceBothSpec Rows.presenceBothRow = true:=by
 have h1:=presenceBoth_f1
 have h2:=presenceBoth_f2
 have h3:=presenceBoth_f3
 have h4:=presenceBoth_f4
 unfold joinedFacts
 refine presenceBoth_and (presenceBoth_and (presenceBoth_and (presenceBoth_and (presenceBoth_and (presenceBoth_and (presenceBoth_and (presenceBoth_and (presenceBoth_and (presenceBoth_and (presenceBoth_and (presenceBoth_and (presenceBoth_and (presenceBoth_and (presenceBoth_and (presenceBoth_and (presenceBoth_and (presenceBoth_and (presenceBoth_and (presenceBoth_and (presenceBoth_and (presenceBoth_and (presenceBoth_and (presenceBoth_and (presenceBoth_and (presenceBoth_and (presenceBoth_and (presenceBoth_and (presenceBoth_and (presenceBoth_and (presenceBoth_and ?_ ?_) ?_) ?_) ?_) ?_) ?_) ?_) ?_) ?_) ?_) ?_) ?_) ?_) ?_) ?_) ?_) ?_) ?_) ?_) ?_) ?_) ?_) ?_) ?_) ?_) ?_) ?_) ?_) ?_) ?_) ?_
 all_goals first | with_reducible assumption | kernel_rfl
theorem presenceBoth_row : Rows.PresenceBothSaid :=
 OpenClaim.holds_of_wide 7 Tryz.f7 rfl rfl rfl rfl rfl rfl rfl ⟨rfl,rfl,rfl,rfl,rfl⟩ rfl rfl rfl rfl rfl presenceBoth_f0 Tryz.func7 presenceBoth_closed
  (of_decide_eq_true (by kernel_rfl)) (by unfold Func.isWrapper; first | (rw [if_pos (by decide +kernel)]; kernel_rfl) | (rw [if_neg (by decide +kernel)]; exact ⟨rfl,rfl⟩))
  (fun os started H enc _ => presenceBoth_lifted os started H enc)
theorem presenceBoth_holds : Rows.PresenceBothCardSaid :=
 Claim7.holds_tied_plain_at .later [] _ _ _ _
  presenceBoth_row (fun _ h => by cases h) (by kernel_rfl) (fun _ h => by cases h) presenceBoth_row_tie rfl ⟨rfl,rfl⟩ presenceBoth_f6 rfl
  (fun f fn hf hfn => by
   obtain rfl : f = 7:=Option.some.inj (presenceBoth_f0.symm.trans hf) |>.symm
   obtain rfl : fn = Tryz.f7:=(Option.some.inj (Tryz.func7.symm.trans hfn)).symm
   exact ⟨presenceBoth_f5,fun j t ht => by
    rw [Tryz.params7] at ht
    have hm : t ∈ [22,9,9]:=by simpa using Array.mem_of_getElem? ht
    have hall : ([22,9,9].all fun u => !Tryz.prog.wantsStandIn u) = true:=by kernel_rfl
    exact (show Tryz.prog.wantsStandIn t = false by simpa using List.all_eq_true.1 hall t hm)⟩)
  presenceBoth_f7
#print axioms presenceBoth_holds
end Go.Proofs.YthekfpgegiffoaaGreatDoor
