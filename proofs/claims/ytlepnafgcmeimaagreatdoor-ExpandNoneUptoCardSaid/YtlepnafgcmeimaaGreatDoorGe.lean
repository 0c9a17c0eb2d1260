/- What is proved: how the statements' arguments are opened, and how a call that leaves all old memory alone is closed. (and what stands with it) -/
import Derived.Test.YtlepnafgcmeimaaGreatDoorRows
import Derived.Test.YtlepnafgcmeimaaGreatDoorTie
import Derived.Test.YtlepnafgcmeimaaGreatDoorCards
import Derived.Test.YtlepnafgcmeimaaGreatDoorGd
import Derived.HandedShaped
import Derived.ProofKit
import Derived.Deep.Slices
import Derived.Deep.Fields
import Derived.OpenShut
import Derived.LaidMore
import Derived.Stop.Joined
import Derived.SevenTiedAt
import Derived.MakeChecks
import Derived.Lay

/- What is proved: how the statements' arguments are opened, and how a call that leaves all old memory alone is closed. -/
namespace Go.Proofs.YtlepnafgcmeimaaGreatDoor
open Go.ChangeShapes Go.WideShapes Go.ChangeAt Go.RowKit Go.Deep

theorem Tryz.own : ownKnob Tryz.prog.godebug = none := by kernel_rfl
theorem Tryz.laidOut : laidOutB Tryz.prog = true := by kernel_rfl
theorem cells3 : Tryz.prog.cellsOf 3 = 1 := by kernel_rfl

theorem spot_none {w : World} {a : Addr} {v : Value} (h : w.cell? a = some v) : a = ⟨a.block, a.off, none⟩ := by
  obtain ⟨b, o, s⟩ := a
  cases s with
  | none => rfl
  | some s =>
    unfold World.cell? at h
    split at h
    · simp at h
    · cases h

section
variable {H : Type} {enc : TypeId × Value → H}

/-- All arguments read as they did. -/
theorem stays_all {P : Program} (hl : laidOutB P = true) {W W' : World} (hb : Below W.heap.size W W') : ∀ {ts : List TypeId} {vs : List Value} {ds : List (DataW H)} {ps : List MemPlace}, (ts.all fun t => P.readableRec t && decide (t < P.types.size)) = true →
    DataW.TrodAll enc P W 0 (fun _ => true) true ts vs ds ps → (∀ x ∈ ps, x.block < W.heap.size) → DataW.TrodAll enc P W' 0 (fun b => decide (b < W.heap.size)) true ts vs ds ps := by
  intro ts
  induction ts with
  | nil =>
    intro vs ds ps _ h _
    obtain ⟨rfl, rfl, rfl⟩ := trodAll_nil h
    exact trodAll_mk0
  | cons t ts ih =>
    intro vs ds ps hr h hlt
    obtain ⟨v, vs', d, ds', p, q, rfl, rfl, rfl, h0, r0⟩ := trodAll_cons h
    simp only [List.all_cons, Bool.and_eq_true, decide_eq_true_iff] at hr
    exact trodAll_cons_mk (Below.trod hl hr.1.1 hr.1.2 h0 hb fun x hx => hlt x (List.mem_append_left _ hx)) (ih hr.2 r0 fun x hx => hlt x (List.mem_append_right _ hx))

/-- A law that answers true and leaves old memory alone is what its row asks. -/
theorem law_post {f : Func} {s : ChangeSpec} {W W' : World} {args : Array Value} {ds gs : List (DataW H)} {before pa : List MemPlace} (hW : DataW.Whole enc Tryz.prog f.params.toList s.vars false W args.toList ds gs before)
    (hA : DataW.TrodAll enc Tryz.prog W 0 (fun _ => true) true f.params.toList args.toList ds pa) (hv : s.vars = []) (hfn : (s.fn H (ds ++ gs)).results = [.lit (.bool true)] ∧ (s.fn H (ds ++ gs)).args = ds ∧ (s.fn H (ds ++ gs)).vars = [])
    (hres : f.resultTypes.toList = [4]) (hr : (f.params.toList.all fun t => Tryz.prog.readableRec t && decide (t < Tryz.prog.types.size)) = true) (hpa : ∀ x ∈ pa, x ∈ before) (hbp : ∀ x ∈ before, x ∈ pa) (hb : Below W.heap.size W W') :
    s.post enc Tryz.prog f false true false false W args (.bool true) W' := by
  have hsz : f.resultTypes.size = 1 := by rw [← Array.length_toList, hres]; rfl
  refine ⟨ds, gs, before, [], pa, [], hW, ?_, ?_, ?_, World.keptBut_mono (fun p hp => ⟨hp, .inr (.inl (hbp p hp))⟩) (hb.frame (· ∈ before)), fun h => by cases h⟩
  · rw [hres, hfn.1, hsz]
    exact trodAll_mk1 (shut_bool Tryz.underlying4 true)
  · rw [hfn.2.1]
    exact stays_all Tryz.laidOut hb hr hA fun x hx => hW.lt x (hpa x hx)
  · rw [hv, hfn.2.2]
    rfl
end
/-! ### The table of signs, as its initialiser lays it -/
theorem gSigns : Tryz.prog.globalNamed "emend/pptok.signs" = some 0 := by kernel_rfl
theorem tSigns : (Tryz.prog.globals[0]?).map (·.type) = some 107 := by kernel_rfl
theorem cellsStr : Tryz.prog.cellsOf 9 = 1 := by kernel_rfl
def laid1 : List (String × DataW Unit) := [("unicode/utf8.acceptRanges", Rows.laid_unicode_utf8_acceptRanges), ("emend/pptok.signs", Rows.laid_emend_pptok_signs), ("unicode/utf8.first", Rows.laid_unicode_utf8_first)]
theorem laid_tab : (Rows.laid_emend_pptok_signs : DataW Unit) = .agg (Lx.signTab.map fun b => .lit (.string b)) := by kernel_rfl

theorem signs_of_laid {W : World} (h : laidMetH Tryz.prog laid1 W) : ∃ t fz, W.heap[0]? = some (.cells signCells t fz) := by
  rw [MakeChecks.laidMetH_plain _ _ _ (by kernel_rfl)] at h
  obtain ⟨ps, ⟨_, _, _, _, _, _, _, _, _, _, ⟨g, t, cs, fuel, p, q, hg, ht, hv, hd, _, _⟩, _⟩, _, _⟩ := h
  obtain rfl := Option.some.inj (gSigns.symm.trans hg)
  obtain rfl := Option.some.inj (tSigns.symm.trans ht)
  rw [laid_tab] at hd
  obtain ⟨xs, m, rfl, hx, hlen, hn, hel⟩ := DataW.trod_array Tryz.underlying107 hd
  have hx1 : (Lx.signTab.map fun b => (DataW.lit (.string b) : DataW Unit)) = xs.map (·.1) := by
    have := congrArg Prod.fst hx
    simpa using this
  have hc48 : Tryz.prog.cellsOf 107 = 48 := by kernel_rfl
  rw [hc48] at hlen
  have hcs : cs = signCells := by
    apply Array.toList_inj.1
    apply List.ext_getElem?
    intro i
    by_cases hi : i < 48
    · obtain ⟨x, hxi⟩ : ∃ x, xs[i]? = some x := ⟨_, List.getElem?_eq_getElem (by rw [hn]; exact hi)⟩
      have h1 := hel i hi
      rw [hxi, cellsStr, Nat.mul_one] at h1
      obtain ⟨s, e1, e2, _⟩ := DataW.trod_string Tryz.underlying9 h1
      have h2 : cs.toList[i]? = some (.string s) := by
        have := congrArg (·[0]?) e1
        simpa [List.getElem?_take, List.getElem?_drop] using this
      have h3 := congrArg (·[i]?) hx1
      simp only [List.getElem?_map, hxi, Option.map_some, e2, Option.map_eq_some_iff, DataW.lit.injEq, Lit.string.injEq] at h3
      obtain ⟨b, hb, rfl⟩ := h3
      rw [h2]
      unfold signCells
      rw [List.getElem?_map, hb]
      rfl
    · rw [List.getElem?_eq_none (by omega), List.getElem?_eq_none (by show 48 ≤ i; omega)]
  rw [hcs] at hv
  simp only [World.var?, gSigns, Option.bind_some] at hv
  split at hv
  · rename_i c t fz hh
    injection hv with hv
    subst hv
    exact ⟨t, fz, hh⟩
  · cases hv

/-- A heap in which the listed variables are laid meets the condition. -/
theorem door_met (os : Os) (args : Array Value) : laidMetH Tryz.prog laid1 ((World.laidAll Tryz.prog os laid1).forCall (fun _ _ => 0) ⟨#[], args, []⟩).memory := by
  rw [MakeChecks.laidMetH_plain _ _ _ (by kernel_rfl)]
  exact laidMet_laidAll _ (by kernel_rfl) (by kernel_rfl)

section
variable {H : Type} {enc : TypeId × Value → H}

/-- A law that lists a variable, and that reads one of the library's own: what is laid, and the world's shape, are both at hand. -/
theorem returns_laid {a : Assume} {C : Checked} {os : Os} {f : FuncId} {fn : Func} {s : ChangeSpec} {conds : List PathCond} {apart fresh handsOn again : Bool} {laid : List (String × DataW Unit)}
    (own : ownKnob C.prog.godebug = none) (started : os.Started) (noInit : C.prog.inits.idxOf? f = none) (hfn : C.prog.funcs[f]? = some fn)
    (witness : ∃ (w : World) (tape : Tape) (i : Input), w.os = os ∧ (w.forCall tape i).Shaped C.prog ∧ i.vars = [] ∧ Input.okWide C.prog (w.forCall tape i) .any w.heap.size f i ∧
      ((s.pre enc C.prog fn conds apart (w.forCall tape i).memory i.args ∧ laidMetH C.prog laid (w.forCall tape i).memory) ∧ sizedMet enc C.prog fn (OpenSpec.ofChange s) apart (w.forCall tape i).memory i.args) ∧ a.holds C.prog (lone (Frame.enter C.prog f i.args .normal) [] (w.forCall tape i)))
    (contract : ∀ (W : World) (base : Nat) (args : Array Value) (ds gs : List (DataW H)) (before : List MemPlace),
      (∀ (j : Nat) t v, fn.params[j]? = some t → args[j]? = some v → Value.okWide C.prog W .any base t v) → DataW.Whole enc C.prog fn.params.toList s.vars apart W args.toList ds gs before →
      laidMetH C.prog laid W → W.ShapedOpen C.prog → Calls C.prog f args W fun e W' => ∃ v, e = .returned v ∧ s.post enc C.prog fn apart fresh handsOn again W args v W') :
    ReturnsInHanded a C os f .any (fun w args => (s.pre enc C.prog fn conds apart w args ∧ laidMetH C.prog laid w) ∧ sizedMet enc C.prog fn (OpenSpec.ofChange s) apart w args) (s.post enc C.prog fn apart fresh handsOn again) := by
  refine returnsInHanded_of_calls own started noInit witness ?_
  intro w tape i _ hsh _ hok hpre _
  obtain ⟨_, _, _, fn', hfn', _, _, _, _, hval⟩ := hok
  obtain rfl : fn' = fn := Option.some.inj (hfn'.symm.trans hfn)
  obtain ⟨⟨⟨ds, gs, before, hw, _⟩, hl⟩, _⟩ := hpre
  refine (contract (w.forCall tape i) w.heap.size i.args ds gs before hval (DataW.Whole.of_heap (w' := w.forCall tape i) (by rfl) hw) (hl.of_heap (by rfl)) hsh).mono fun e W' ⟨v, he, hp⟩ => ?_
  subst he
  exact ChangeSpec.post_blind hp
theorem glob_of {W : World} (hl : laidMetH Tryz.prog laid1 W) (hs : W.ShapedOpen Tryz.prog) : Glob W := ⟨Glob.shaped_int hs, signs_of_laid hl⟩
end
end Go.Proofs.YtlepnafgcmeimaaGreatDoor

/- What a definition is: plain. -/
namespace Go.Proofs.YtlepnafgcmeimaaGreatDoor
namespace Mx

/-- The name of what stands behind the last parameter. -/
def VA : ByteArray := ⟨#[95, 95, 86, 65, 95, 65, 82, 71, 83, 95, 95]⟩
def DF : ByteArray := ⟨#[100, 101, 102, 105, 110, 101, 100]⟩
def LP : ByteArray := ⟨#[40]⟩
def RP : ByteArray := ⟨#[41]⟩
def CM : ByteArray := ⟨#[44]⟩
def EL : ByteArray := ⟨#[46, 46, 46]⟩
def HS : ByteArray := ⟨#[35]⟩
def HH : ByteArray := ⟨#[35, 35]⟩

def isP (t : K) (s : ByteArray) : Bool := t.kind == 5 && decide (t.text = s)

/-- Is a text among these? -/
def has (ps : List ByteArray) (s : ByteArray) : Bool := ps.any fun p => decide (p = s)
theorem has_iff (ps : List ByteArray) (s : ByteArray) : has ps s = true ↔ s ∈ ps := by simp [has]

structure M where
  name : ByteArray
  fn : Bool
  ps : List ByteArray
  va : Bool
  body : List K
def M.zero : M := ⟨ByteArray.empty, false, [], false, []⟩

/-- May a token be one more parameter? -/
def parOk (ps : List ByteArray) (t : K) : Bool := t.kind == 1 && (!decide (t.text = VA) && !has ps t.text)
/-- A list of parameters that is not empty, with what stands behind its bracket. -/
def plist : List ByteArray → List K → Option (List ByteArray × Bool × List K)
  | ps, a :: b :: r =>
    if isP a EL then (if isP b RP then some (ps, true, r) else none)
    else if parOk ps a then
      (if isP b RP then some (ps ++ [a.text], false, r) else if isP b CM then plist (ps ++ [a.text]) r else none)
    else none
  | _, _ => none

/-- Is a token a parameter? -/
def known (ps : List ByteArray) (va : Bool) (t : K) : Bool := t.kind == 1 && (has ps t.text || (va && decide (t.text = VA)))
def hashBad (ps : List ByteArray) (va : Bool) : List K → Bool
  | [] => false
  | [t] => isP t HS
  | t :: u :: r => (isP t HS && !known ps va u) || hashBad ps va (u :: r)
def vaIn (l : List K) : Bool := l.any fun t => t.kind == 1 && decide (t.text = VA)
def bare : List K → List K
  | [] => []
  | t :: r => { t with bl := false } :: r
def pasteBad (l : List K) : Bool := (match l.head? with | some t => isP t HH | none => false) || (match l.getLast? with | some t => isP t HH | none => false)

/-- What is left is a body. -/
def bodyOf (nm : ByteArray) (fn : Bool) (ps : List ByteArray) (va : Bool) (l : List K) : M × Int :=
  if l = [] then (⟨nm, fn, ps, va, []⟩, 0)
  else if pasteBad l then (.zero, 63)
  else if fn && hashBad ps va l then (.zero, 64)
  else if !va && vaIn l then (.zero, 65)
  else (⟨nm, fn, ps, va, bare l⟩, 0)

/-- What stands behind the name: is it a list, with the parameters, and what is left; or the error. -/
def brack (r : List K) : Except Int (Bool × List ByteArray × Bool × List K) :=
  match r with
  | [] => .ok (false, [], false, [])
  | u :: r' =>
    if u.bl then .ok (false, [], false, u :: r')
    else if isP u LP then
      (match r' with
        | [] => .error 61
        | c :: r'' =>
          if isP c RP then .ok (true, [], false, r'')
          else match plist [] (c :: r'') with
            | none => .error 61
            | some (ps, va, l) => .ok (true, ps, va, l))
    else .error 62
def nameOk (t : K) : Bool := t.kind == 1 && (!decide (t.text = DF) && !decide (t.text = VA))
/-- The macro of tokens, or the error. -/
def defi (l : List K) : M × Int :=
  match l with
  | [] => (.zero, 60)
  | t :: r =>
    if nameOk t then
      match brack r with
      | .error e => (.zero, e)
      | .ok (fn, ps, va, b) => bodyOf t.text fn ps va b
    else (.zero, 60)
end Mx
end Go.Proofs.YtlepnafgcmeimaaGreatDoor
