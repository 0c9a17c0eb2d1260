/- PresenceOne answers true for every two lists of texts, the tables of signs and of words, the two errors of strconv's and the number tables holding what their initialisers lay (tied to the program's text): no other condition. -/
import Derived.Test.YthekfpgegiffoaaGreatDoorQb
import Derived.Test.YthekfpgegiffoaaGreatDoorQzc
import Derived.Deep.DeepHandedRow
set_option linter.unusedVariables false
set_option linter.unusedSimpArgs false
set_option maxRecDepth 100000
set_option maxHeartbeats 16000000
namespace Go.Proofs.YthekfpgegiffoaaGreatDoor
open Go.ChangeShapes Go.WideShapes Go.ChangeAt Go.RowKit Go.Deep
open Go.ChangeMaps (open_string)
theorem presenceOne_lifted (os : Os) (started : os.Started) (H : Type) (enc : TypeId × Value → H) :
  ReturnsInHanded {} Tryz.checked os 5 .any (fun w args => (Rows.presenceOneSpec.pre enc Tryz.prog Tryz.f5 [] false w args ∧ laidMetH Tryz.prog laid1 w) ∧ sizedMet enc Tryz.prog Tryz.f5 (OpenSpec.ofChange Rows.presenceOneSpec) false w args)
   (Rows.presenceOneSpec.post enc Tryz.prog Tryz.f5 false true false false):=by
 refine returns_laid (C:=Tryz.checked) Tryz.own started (by kernel_rfl) Tryz.func5
  (ChangeSpec.witness_shaped (enc:=enc) (C:=Tryz.checked) (os:=os) (X:=fun w _ => laidMetH Tryz.prog laid1 w) false (World.laidAll Tryz.prog os laid1) #[.slice none 0 0, .slice none 0 0] 8 (World.laidAll_os _ _ _) (World.shaped_of_ZipB (by kernel_rfl) (by kernel_rfl)) (by kernel_rfl) (by kernel_rfl) (by kernel_rfl) (door_met os _)) ?_
 intro W base args ds gs before hval0 hW hL hsh
 have hval : ∀ (j : Nat) t v,Tryz.f5.params[j]? = some t → args[j]? = some v → Value.okWide Tryz.prog W .any base t v:=hval0
 have hW':=hW
 obtain ⟨p,q,hA0,hV,rfl,_,_⟩:=hW
 have hA : DataW.TrodAll enc Tryz.prog W 0 (fun _ => true) true Tryz.f5.params.toList args.toList ds p:=hA0
 have hAll:=hA
 have hG : Gv W:=⟨glob_of hL hsh,errs_of hL⟩
 rw [Tryz.params5] at hA hval
 obtain ⟨v0,vs0,d0,ds0,p0,q0,hargs,rfl,rfl,h0,r0⟩:=trodAll_cons hA
 obtain ⟨v1,vs1,d1,ds1,p1,q1,rfl,rfl,rfl,h1,r1⟩:=trodAll_cons r0
 obtain ⟨rfl,rfl,rfl⟩:=trodAll_nil r1
 obtain rfl : args = #[v0,v1]:=by cases args; simp_all
 obtain ⟨rfl,rfl⟩:=trodVars_none hV
 obtain ⟨ts0,hk0,hm0⟩:=open_names (hval 0 22 v0 rfl rfl) h0
 obtain ⟨ts1,hk1,hm1⟩:=open_names (hval 1 22 v1 rfl rfl) h1
 refine (lone_any v0 v1 ts0 ts1 hm1 W hG hk0 hk1).mono fun e W' ⟨he,hb⟩ => ?_
 subst he
 exact ⟨_,rfl,law_post hW' hAll rfl ⟨rfl,rfl,rfl⟩ (by kernel_rfl) (by kernel_rfl) (fun x hx => by simpa using hx) (fun x hx => by simpa using hx) hb⟩
theorem presenceOne_f0 : Tryz.prog.funcNamed "emend/emendlaw12.PresenceOne" = some 5:=by kernel_rfl
theorem presenceOne_f1 : (Rows.presenceOneRow.inPlace == Tryz.prog.inPlace 5) = true:=by kernel_rfl
theorem presenceOne_f2 : (Rows.presenceOneRow.unfollowed == Tryz.prog.unfollowed 5) = true:=by kernel_rfl
theorem presenceOne_f3 : (Rows.presenceOneRow.recurses == Tryz.prog.recurses 5) = true:=by kernel_rfl
theorem presenceOne_f4 : (Rows.presenceOneRow.named == Tryz.prog.varsNamed 5) = true:=by kernel_rfl
theorem presenceOne_f5 : true = Tryz.prog.looks []:=by kernel_rfl
theorem presenceOne_f6 : Tryz.prog.mainIs = some (true,"6576a81339863aa0fe626058e1aed0e5988521277cbdfa86bbc9f886c3f5d5cc".toList):=by kernel_rfl
theorem presenceOne_f7 : false = Rows.presenceOneRow.goesBy Tryz.prog:=by kernel_rfl
theorem presenceOne_and {a b : Bool} (ha : a = true) (hb : b = true) : (a && b) = true:=by rw [ha,hb]; rfl
theorem presenceOne_closed : joinedFacts Tryz.prog 5 Tryz.f5 Rows.presenceOneSpec Rows.presenceOneRow = true:=by
 have h1:=presenceOne_f1
 have h2:=presenceOne_f2
 have h3:=presenceOne_f3
 have h4:=presenceOne_f4
 unfold joinedFacts
 refine presenceOne_and (presenceOne_and (presenceOne_and (presenceOne_and (presenceOne_and (presenceOne_and (presenceOne_and (presenceOne_and (presenceOne_and (presenceOne_and (presenceOne_and (presenceOne_and (presenceOne_and (presenceOne_and (presenceOne_and (presenceOne_and (presenceOne_and (presenceOne_and (presenceOne_and (presenceOne_and (presenceOne_and (presenceOne_and (presenceOne_and (presenceOne_and (presenceOne_and (presenceOne_and (presenceOne_and (presenceOne_and (presenceOne_and (presenceOne_and (presenceOne_and ?_ ?_) ?_) ?_) ?_) ?_) ?_) ?_) ?_) ?_) ?_) ?_) ?_) ?_) ?_) ?_) ?_) ?_) ?_) ?_) ?_) ?_) ?_) ?_) ?_) ?_) ?_) ?_) ?_) ?_) ?_) ?_
 all_goals first | with_reducible assumption | kernel_rfl
theorem presenceOne_row : Rows.PresenceOneSaid :=
 OpenClaim.holds_of_wide 5 Tryz.f5 rfl rfl rfl rfl rfl rfl rfl ⟨rfl,rfl,rfl,rfl,rfl⟩ rfl rfl rfl rfl rfl presenceOne_f0 Tryz.func5 presenceOne_closed
  (of_decide_eq_true (by kernel_rfl)) (by unfold Func.isWrapper; first | (rw [if_pos (by decide +kernel)]; kernel_rfl) | (rw [if_neg (by decide +kernel)]; exact ⟨rfl,rfl⟩))
  (fun os started H enc _ => presenceOne_lifted os started H enc)
theorem presenceOne_holds : Rows.PresenceOneCardSaid :=
 Claim7.holds_tied_plain_at .later [] _ _ _ _
  presenceOne_row (fun _ h => by cases h) (by kernel_rfl) (fun _ h => by cases h) presenceOne_row_tie rfl ⟨rfl,rfl⟩ presenceOne_f6 rfl
  (fun f fn hf hfn => by
   obtain rfl : f = 5:=Option.some.inj (presenceOne_f0.symm.trans hf) |>.symm
   obtain rfl : fn = Tryz.f5:=(Option.some.inj (Tryz.func5.symm.trans hfn)).symm
   exact ⟨presenceOne_f5,fun j t ht => by
    rw [Tryz.params5] at ht
    have hm : t ∈ [22,22]:=by simpa using Array.mem_of_getElem? ht
    have hall : ([22,22].all fun u => !Tryz.prog.wantsStandIn u) = true:=by kernel_rfl
    exact (show Tryz.prog.wantsStandIn t = false by simpa using List.all_eq_true.1 hall t hm)⟩)
  presenceOne_f7
#print axioms presenceOne_holds
end Go.Proofs.YthekfpgegiffoaaGreatDoor
