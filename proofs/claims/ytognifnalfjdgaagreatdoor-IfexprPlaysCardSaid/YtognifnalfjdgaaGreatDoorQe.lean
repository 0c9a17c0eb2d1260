/- What is proved: how the statements' arguments are opened, and how a call that leaves all old memory alone is closed. (and what stands with it) -/
import Derived.Test.YtognifnalfjdgaaGreatDoorRows
import Derived.Test.YtognifnalfjdgaaGreatDoorTie
import Derived.Test.YtognifnalfjdgaaGreatDoorCards
import Derived.Test.YtognifnalfjdgaaGreatDoorQd
import Derived.HandedShaped
import Derived.ProofKit
import Derived.Deep.Slices
import Derived.Deep.Fields
import Derived.OpenShut
import Derived.LaidMore
import Derived.Stop.LaidErr
import Derived.Stop.Joined
import Derived.SevenTiedAt
import Derived.MakeChecks
import Derived.Lay
import Derived.Deep.RegionHeld3
import Derived.Deep.AppendLies
import Derived.IntWalk
import Derived.Deep.DeepCutAuto
import Derived.Handy

/- What is proved: how the statements' arguments are opened, and how a call that leaves all old memory alone is closed. -/
namespace Go.Proofs.YtognifnalfjdgaaGreatDoor
open Go.ChangeShapes Go.WideShapes Go.ChangeAt Go.RowKit Go.Deep

theorem Tryz.own : ownKnob Tryz.prog.godebug = none := by kernel_rfl
theorem Tryz.laidOut : laidOutB Tryz.prog = true := by kernel_rfl
theorem cells3 : Tryz.prog.cellsOf 3 = 1 := by kernel_rfl

theorem spot_none {w : World} {a : Addr} {v : Value} (h : w.cell? a = some v) : a = ⟨a.block, a.off, none⟩ := by
  obtain ⟨b, o, s⟩ := a
  cases s with
  | none => rfl
  | some s =>
    unfold World.cell? at h
    split at h
    · simp at h
    · cases h

section
variable {H : Type} {enc : TypeId × Value → H}

/-- All arguments read as they did. -/
theorem stays_all {P : Program} (hl : laidOutB P = true) {W W' : World} (hb : Below W.heap.size W W') : ∀ {ts : List TypeId} {vs : List Value} {ds : List (DataW H)} {ps : List MemPlace}, (ts.all fun t => P.readableRec t && decide (t < P.types.size)) = true →
    DataW.TrodAll enc P W 0 (fun _ => true) true ts vs ds ps → (∀ x ∈ ps, x.block < W.heap.size) → DataW.TrodAll enc P W' 0 (fun b => decide (b < W.heap.size)) true ts vs ds ps := by
  intro ts
  induction ts with
  | nil =>
    intro vs ds ps _ h _
    obtain ⟨rfl, rfl, rfl⟩ := trodAll_nil h
    exact trodAll_mk0
  | cons t ts ih =>
    intro vs ds ps hr h hlt
    obtain ⟨v, vs', d, ds', p, q, rfl, rfl, rfl, h0, r0⟩ := trodAll_cons h
    simp only [List.all_cons, Bool.and_eq_true, decide_eq_true_iff] at hr
    exact trodAll_cons_mk (Below.trod hl hr.1.1 hr.1.2 h0 hb fun x hx => hlt x (List.mem_append_left _ hx)) (ih hr.2 r0 fun x hx => hlt x (List.mem_append_right _ hx))

/-- A law that answers true and leaves old memory alone is what its row asks. -/
theorem law_post {f : Func} {s : ChangeSpec} {W W' : World} {args : Array Value} {ds gs : List (DataW H)} {before pa : List MemPlace} (hW : DataW.Whole enc Tryz.prog f.params.toList s.vars false W args.toList ds gs before)
    (hA : DataW.TrodAll enc Tryz.prog W 0 (fun _ => true) true f.params.toList args.toList ds pa) (hv : s.vars = []) (hfn : (s.fn H (ds ++ gs)).results = [.lit (.bool true)] ∧ (s.fn H (ds ++ gs)).args = ds ∧ (s.fn H (ds ++ gs)).vars = [])
    (hres : f.resultTypes.toList = [4]) (hr : (f.params.toList.all fun t => Tryz.prog.readableRec t && decide (t < Tryz.prog.types.size)) = true) (hpa : ∀ x ∈ pa, x ∈ before) (hbp : ∀ x ∈ before, x ∈ pa) (hb : Below W.heap.size W W') :
    s.post enc Tryz.prog f false true false false W args (.bool true) W' := by
  have hsz : f.resultTypes.size = 1 := by rw [← Array.length_toList, hres]; rfl
  refine ⟨ds, gs, before, [], pa, [], hW, ?_, ?_, ?_, World.keptBut_mono (fun p hp => ⟨hp, .inr (.inl (hbp p hp))⟩) (hb.frame (· ∈ before)), fun h => by cases h⟩
  · rw [hres, hfn.1, hsz]
    exact trodAll_mk1 (shut_bool Tryz.underlying4 true)
  · rw [hfn.2.1]
    exact stays_all Tryz.laidOut hb hr hA fun x hx => hW.lt x (hpa x hx)
  · rw [hv, hfn.2.2]
    rfl
end
/-! ### The table of signs, as its initialiser lays it -/
theorem gSigns : Tryz.prog.globalNamed "emend/pptok.signs" = some 0 := by kernel_rfl
theorem tSigns : (Tryz.prog.globals[0]?).map (·.type) = some 111 := by kernel_rfl
theorem cellsStr : Tryz.prog.cellsOf 9 = 1 := by kernel_rfl
def laid1 : List (String × DataW Unit) := [("math/bits.deBruijn32tab", Rows.laid_math_bits_deBruijn32tab), ("math/bits.deBruijn64tab", Rows.laid_math_bits_deBruijn64tab), ("internal/strconv.uint64pow10", Rows.laid_internal_strconv_uint64pow10), ("strconv.ErrRange", Rows.laid_strconv_ErrRange), ("strconv.ErrSyntax", Rows.laid_strconv_ErrSyntax), ("emend/pptok.signs", Rows.laid_emend_pptok_signs)]
theorem laid_tab : (Rows.laid_emend_pptok_signs : DataW Unit) = .agg (Lx.signTab.map fun b => .lit (.string b)) := by kernel_rfl

theorem signs_of_laid {W : World} (h : laidMetH Tryz.prog laid1 W) : ∃ t fz, W.heap[0]? = some (.cells signCells t fz) := by
  rw [MakeChecks.laidMetH_plain _ _ _ (by kernel_rfl)] at h
  obtain ⟨ps, ⟨g, t, cs, fuel, p, q, hg, ht, hv, hd, _, _⟩, _, _⟩ := h.tail.tail.tail.tail.tail
  obtain rfl := Option.some.inj (gSigns.symm.trans hg)
  obtain rfl := Option.some.inj (tSigns.symm.trans ht)
  rw [laid_tab] at hd
  obtain ⟨xs, m, rfl, hx, hlen, hn, hel⟩ := DataW.trod_array Tryz.underlying111 hd
  have hx1 : (Lx.signTab.map fun b => (DataW.lit (.string b) : DataW Unit)) = xs.map (·.1) := by
    have := congrArg Prod.fst hx
    simpa using this
  have hc48 : Tryz.prog.cellsOf 111 = 48 := by kernel_rfl
  rw [hc48] at hlen
  have hcs : cs = signCells := by
    apply Array.toList_inj.1
    apply List.ext_getElem?
    intro i
    by_cases hi : i < 48
    · obtain ⟨x, hxi⟩ : ∃ x, xs[i]? = some x := ⟨_, List.getElem?_eq_getElem (by rw [hn]; exact hi)⟩
      have h1 := hel i hi
      rw [hxi, cellsStr, Nat.mul_one] at h1
      obtain ⟨s, e1, e2, _⟩ := DataW.trod_string Tryz.underlying9 h1
      have h2 : cs.toList[i]? = some (.string s) := by
        have := congrArg (·[0]?) e1
        simpa [List.getElem?_take, List.getElem?_drop] using this
      have h3 := congrArg (·[i]?) hx1
      simp only [List.getElem?_map, hxi, Option.map_some, e2, Option.map_eq_some_iff, DataW.lit.injEq, Lit.string.injEq] at h3
      obtain ⟨b, hb, rfl⟩ := h3
      rw [h2]
      unfold signCells
      rw [List.getElem?_map, hb]
      rfl
    · rw [List.getElem?_eq_none (by omega), List.getElem?_eq_none (by show 48 ≤ i; omega)]
  rw [hcs] at hv
  simp only [World.var?, gSigns, Option.bind_some] at hv
  split at hv
  · rename_i c t fz hh
    injection hv with hv
    subst hv
    exact ⟨t, fz, hh⟩
  · cases hv

/-- A heap in which the listed variables are laid meets the condition. -/
theorem door_met (os : Os) (args : Array Value) : laidMetH Tryz.prog laid1 ((World.laidAll Tryz.prog os laid1).forCall (fun _ _ => 0) ⟨#[], args, []⟩).memory := by
  rw [MakeChecks.laidMetH_plain _ _ _ (by kernel_rfl)]
  exact laidMet_laidAll _ (by kernel_rfl) (by kernel_rfl)

section
variable {H : Type} {enc : TypeId × Value → H}

/-- A law that lists a variable, and that reads one of the library's own: what is laid, and the world's shape, are both at hand. -/
theorem returns_laid {a : Assume} {C : Checked} {os : Os} {f : FuncId} {fn : Func} {s : ChangeSpec} {conds : List PathCond} {apart fresh handsOn again : Bool} {laid : List (String × DataW Unit)}
    (own : ownKnob C.prog.godebug = none) (started : os.Started) (noInit : C.prog.inits.idxOf? f = none) (hfn : C.prog.funcs[f]? = some fn)
    (witness : ∃ (w : World) (tape : Tape) (i : Input), w.os = os ∧ (w.forCall tape i).Shaped C.prog ∧ i.vars = [] ∧ Input.okWide C.prog (w.forCall tape i) .any w.heap.size f i ∧
      ((s.pre enc C.prog fn conds apart (w.forCall tape i).memory i.args ∧ laidMetH C.prog laid (w.forCall tape i).memory) ∧ sizedMet enc C.prog fn (OpenSpec.ofChange s) apart (w.forCall tape i).memory i.args) ∧ a.holds C.prog (lone (Frame.enter C.prog f i.args .normal) [] (w.forCall tape i)))
    (contract : ∀ (W : World) (base : Nat) (args : Array Value) (ds gs : List (DataW H)) (before : List MemPlace),
      (∀ (j : Nat) t v, fn.params[j]? = some t → args[j]? = some v → Value.okWide C.prog W .any base t v) → DataW.Whole enc C.prog fn.params.toList s.vars apart W args.toList ds gs before →
      laidMetH C.prog laid W → W.ShapedOpen C.prog → Calls C.prog f args W fun e W' => ∃ v, e = .returned v ∧ s.post enc C.prog fn apart fresh handsOn again W args v W') :
    ReturnsInHanded a C os f .any (fun w args => (s.pre enc C.prog fn conds apart w args ∧ laidMetH C.prog laid w) ∧ sizedMet enc C.prog fn (OpenSpec.ofChange s) apart w args) (s.post enc C.prog fn apart fresh handsOn again) := by
  refine returnsInHanded_of_calls own started noInit witness ?_
  intro w tape i _ hsh _ hok hpre _
  obtain ⟨_, _, _, fn', hfn', _, _, _, _, hval⟩ := hok
  obtain rfl : fn' = fn := Option.some.inj (hfn'.symm.trans hfn)
  obtain ⟨⟨⟨ds, gs, before, hw, _⟩, hl⟩, _⟩ := hpre
  refine (contract (w.forCall tape i) w.heap.size i.args ds gs before hval (DataW.Whole.of_heap (w' := w.forCall tape i) (by rfl) hw) (hl.of_heap (by rfl)) hsh).mono fun e W' ⟨v, he, hp⟩ => ?_
  subst he
  exact ChangeSpec.post_blind hp
theorem glob_of {W : World} (hl : laidMetH Tryz.prog laid1 W) (hs : W.ShapedOpen Tryz.prog) : Glob W := ⟨Glob.shaped_int hs, signs_of_laid hl⟩
theorem star9 : "*" ++ "errors.errorString" = "*errors.errorString" := by decide
theorem row_err (u : TypeId) (h : Tryz.prog.typeName? 3 u = some "*errors.errorString") : u = 136 :=
  typeName_ptr_named (nm := "errors.errorString") (by rw [star9]; kernel_rfl) (by kernel_rfl) (by decide) u (by rw [star9]; exact h)
theorem errs_of {W : World} (hl : laidMetH Tryz.prog laid1 W) : Errs W := by
  rw [MakeChecks.laidMetH_plain _ _ _ (by kernel_rfl)] at hl
  obtain ⟨a, _, ha, _, _, _⟩ := laid_sentinel hl.tail.tail.tail.tail (g := 1) (by kernel_rfl) (by kernel_rfl) Tryz.underlying67 row_err Tryz.underlying136 Tryz.underlying138 rfl rfl Tryz.underlying9 (by kernel_rfl) (by kernel_rfl)
  obtain ⟨b, _, hb, _, _, _⟩ := laid_sentinel hl.tail.tail.tail (g := 2) (by kernel_rfl) (by kernel_rfl) Tryz.underlying67 row_err Tryz.underlying136 Tryz.underlying138 rfl rfl Tryz.underlying9 (by kernel_rfl) (by kernel_rfl)
  have h0 := World.var?_cell (show Tryz.prog.globalNamed "strconv.ErrSyntax" = some 1 by kernel_rfl) ha 0
  have h1 := World.var?_cell (show Tryz.prog.globalNamed "strconv.ErrRange" = some 2 by kernel_rfl) hb 0
  exact ⟨⟨_, _, by simpa using h0⟩, ⟨_, _, by simpa using h1⟩⟩
end
end Go.Proofs.YtognifnalfjdgaaGreatDoor

/- Expressions, plainly: how tokens are read, and what they come to. -/
namespace Go.Proofs.YtognifnalfjdgaaGreatDoor
namespace Ie

/-- An expression. -/
inductive E
  | num (n : Int)
  | bad
  | un (s : ByteArray) (x : E)
  | bin (s : ByteArray) (x y : E)
  | ask (x y z : E)

/-- Is a number that is none in it? -/
def E.isBad : E → Bool
  | .num _ => false
  | .bad => true
  | .un _ x => x.isBad
  | .bin _ x y => x.isBad || y.isBad
  | .ask x y z => x.isBad || (y.isBad || z.isBad)

def sOr : ByteArray := ⟨#[124, 124]⟩
def sAnd : ByteArray := ⟨#[38, 38]⟩
def sBar : ByteArray := ⟨#[124]⟩
def sHat : ByteArray := ⟨#[94]⟩
def sAmp : ByteArray := ⟨#[38]⟩
def sEq : ByteArray := ⟨#[61, 61]⟩
def sNe : ByteArray := ⟨#[33, 61]⟩
def sLt : ByteArray := ⟨#[60]⟩
def sGt : ByteArray := ⟨#[62]⟩
def sLe : ByteArray := ⟨#[60, 61]⟩
def sGe : ByteArray := ⟨#[62, 61]⟩
def sShl : ByteArray := ⟨#[60, 60]⟩
def sShr : ByteArray := ⟨#[62, 62]⟩
def sAdd : ByteArray := ⟨#[43]⟩
def sSub : ByteArray := ⟨#[45]⟩
def sMul : ByteArray := ⟨#[42]⟩
def sQuo : ByteArray := ⟨#[47]⟩
def sRem : ByteArray := ⟨#[37]⟩
def sNot : ByteArray := ⟨#[33]⟩
def sTil : ByteArray := ⟨#[126]⟩
def sAsk : ByteArray := ⟨#[63]⟩
def sCol : ByteArray := ⟨#[58]⟩
def sLp : ByteArray := ⟨#[40]⟩
def sRp : ByteArray := ⟨#[41]⟩

/-- Is it this sign? -/
def isS (t : K) (s : ByteArray) : Bool := decide (t.kind = 5) && decide (t.text = s)
/-- The level of a sign between two. -/
def lvS (s : ByteArray) : Nat :=
  if s = sOr then 1 else if s = sAnd then 2 else if s = sBar then 3 else if s = sHat then 4 else if s = sAmp then 5
  else if s = sEq then 6 else if s = sNe then 6
  else if s = sLt then 7 else if s = sGt then 7 else if s = sLe then 7 else if s = sGe then 7
  else if s = sShl then 8 else if s = sShr then 8
  else if s = sAdd then 9 else if s = sSub then 9
  else if s = sMul then 10 else if s = sQuo then 10 else if s = sRem then 10 else 0
def lvOf (t : K) : Nat := if t.kind = 5 then lvS t.text else 0

/-! What numbers are. -/
def dig (c : UInt8) : Nat :=
  if 48 ≤ c ∧ c ≤ 57 then c.toNat - 48 else if 97 ≤ c ∧ c ≤ 102 then c.toNat - 87 else if 65 ≤ c ∧ c ≤ 70 then c.toNat - 55 else 99
def sfxs : List (List UInt8) :=
  [[], [117], [85], [108], [76], [108, 108], [76, 76], [117, 108], [117, 76], [117, 108, 108], [117, 76, 76], [85, 108], [85, 76], [85, 108, 108], [85, 76, 76],
   [108, 117], [108, 85], [76, 117], [76, 85], [108, 108, 117], [108, 108, 85], [76, 76, 117], [76, 76, 85]]
def isSfx (l : List UInt8) : Bool := sfxs.contains l
/-- Where digits begin, and what they are digits of. -/
def start (l : List UInt8) : Nat × Nat :=
  match l with
  | [] => (0, 10)
  | [c] => if c = 48 then (0, 8) else (0, 10)
  | c :: d :: _ => if c = 48 then (if d = 120 ∨ d = 88 then (2, 16) else (0, 8)) else (0, 10)
def most : Nat := 9223372036854775807
def val (base : Nat) (l : List UInt8) : Nat := l.foldl (fun n c => n * base + dig c) 0
def digs (base : Nat) (l : List UInt8) : List UInt8 := l.takeWhile fun c => decide (dig c < base)
def number (l : List UInt8) : Option Nat :=
  let b := (start l).2
  let r := l.drop (start l).1
  let ds := digs b r
  if ds = [] then none else if !isSfx (r.drop ds.length) then none else if most < val b ds then none else some (val b ds)

/-- What a byte behind a backslash stands for. -/
def esc (c : UInt8) : Option Nat :=
  if c = 110 then some 10 else if c = 116 then some 9 else if c = 114 then some 13 else if c = 48 then some 0 else if c = 97 then some 7 else if c = 98 then some 8
  else if c = 102 then some 12 else if c = 118 then some 11 else if c = 92 then some 92 else if c = 39 then some 39 else if c = 34 then some 34 else if c = 63 then some 63 else none
def quote : List UInt8 → Option Nat
  | [a, b, c] => if a = 39 ∧ c = 39 ∧ b ≠ 92 then some b.toNat else none
  | [a, b, c, d] => if a = 39 ∧ d = 39 ∧ b = 92 then esc c else none
  | _ => none

/-! How tokens are read. -/
abbrev Rd := List K → Option (E × List K)

/-- More operands of one level. -/
def more (next : Rd) (lv : Nat) : Nat → E → Rd
  | 0, x, l => some (x, l)
  | _ + 1, x, [] => some (x, [])
  | f + 1, x, t :: r =>
    if lvOf t = lv then
      match next r with
      | none => none
      | some (y, l') => more next lv f (.bin t.text x y) l'
    else some (x, t :: r)
def level (next : Rd) (lv : Nat) : Rd := fun l =>
  match next l with
  | none => none
  | some (x, l') => more next lv l'.length x l'
/-- So many levels over operands. -/
def levels (op : Rd) : Nat → Rd
  | 0 => op
  | k + 1 => level (levels op k) (10 - k)
def ofNum : Option Nat → E
  | none => .bad
  | some n => .num n
def isUn (s : ByteArray) : Bool := decide (s = sAdd) || decide (s = sSub) || decide (s = sNot) || decide (s = sTil)
/-- It ends with that sign. -/
def shut (s : ByteArray) : Option (E × List K) → Option (E × List K)
  | some (x, t :: r) => if isS t s then some (x, r) else none
  | _ => none
def operS (o e : Rd) : Rd := fun l =>
  match l with
  | [] => none
  | t :: r =>
    if t.kind = 2 then some (ofNum (number t.text.data.toList), r)
    else if t.kind = 3 then some (ofNum (quote t.text.data.toList), r)
    else if t.kind = 1 then some (.num 0, r)
    else if t.kind = 5 then
      if isUn t.text then
        match o r with
        | none => none
        | some (x, l') => some (.un t.text x, l')
      else if t.text = sLp then shut sRp (e r)
      else none
    else none
def exprS (o e : Rd) : Rd := fun l =>
  match levels o 10 l with
  | none => none
  | some (x, l') =>
    match l' with
    | [] => some (x, [])
    | u :: r =>
      if isS u sAsk then
        match shut sCol (e r) with
        | none => none
        | some (y, r2) =>
          match e r2 with
          | none => none
          | some (z, r3) => some (.ask x y z, r3)
      else some (x, u :: r)
/-- Operands and expressions that may hold so many within another. -/
def both : Nat → Rd × Rd
  | 0 => (fun _ => none, fun _ => none)
  | d + 1 => (operS (both d).1 (both d).2, exprS (operS (both d).1 (both d).2) (both d).2)
def oper (d : Nat) : Rd := (both d).1
def expr (d : Nat) : Rd := (both d).2

theorem oper_succ (d : Nat) : oper (d + 1) = operS (oper d) (expr d) := rfl
theorem expr_succ (d : Nat) : expr (d + 1) = exprS (oper (d + 1)) (expr d) := rfl

/-! What an expression comes to. -/
def one (b : Bool) : Int := if b then 1 else 0
def w64 (n : Int) : Int := IntKind.i64.wrap n
def bits (f : BitVec 64 → BitVec 64 → BitVec 64) (a b : Int) : Int := w64 (f (BitVec.ofInt 64 a) (BitVec.ofInt 64 b)).toNat
def two (s : ByteArray) (a b : Int) : Int × Int :=
  if s = sOr then (one (decide (b ≠ 0)), 0) else if s = sAnd then (one (decide (b ≠ 0)), 0)
  else if s = sBar then (bits (· ||| ·) a b, 0) else if s = sHat then (bits (· ^^^ ·) a b, 0) else if s = sAmp then (bits (· &&& ·) a b, 0)
  else if s = sEq then (one (decide (a = b)), 0) else if s = sNe then (one (decide (a ≠ b)), 0)
  else if s = sLt then (one (decide (a < b)), 0) else if s = sGt then (one (decide (b < a)), 0)
  else if s = sLe then (one (decide (a ≤ b)), 0) else if s = sGe then (one (decide (b ≤ a)), 0)
  else if s = sAdd then (w64 (a + b), 0) else if s = sSub then (w64 (a - b), 0) else if s = sMul then (w64 (a * b), 0)
  else if s = sShl then (if b < 0 ∨ 63 < b then (0, 93) else (w64 (a * 2 ^ b.toNat), 0))
  else if s = sShr then (if b < 0 ∨ 63 < b then (0, 93) else (a / 2 ^ b.toNat, 0))
  else if b = 0 then (0, 92)
  else if s = sQuo then (w64 (a.tdiv b), 0) else (a.tmod b, 0)
def una (s : ByteArray) (a : Int) : Int := if s = sSub then w64 (0 - a) else if s = sNot then one (decide (a = 0)) else if s = sTil then w64 (-1 - a) else a
/-- By the first one alone. -/
def early (s : ByteArray) (a : Int) : Option Int := if s = sOr ∧ a ≠ 0 then some 1 else if s = sAnd ∧ a = 0 then some 0 else none
def comes : E → Int × Int
  | .num n => (n, 0)
  | .bad => (0, 0)
  | .un s x => if (comes x).2 ≠ 0 then (0, (comes x).2) else (una s (comes x).1, 0)
  | .bin s x y =>
    if (comes x).2 ≠ 0 then (0, (comes x).2)
    else match early s (comes x).1 with
      | some n => (n, 0)
      | none => if (comes y).2 ≠ 0 then (0, (comes y).2) else two s (comes x).1 (comes y).1
  | .ask x y z =>
    if (comes x).2 ≠ 0 then (0, (comes x).2) else if (comes x).1 ≠ 0 then comes y else comes z

def inLine (l : List K) : List K := l.filter fun t => decide (t.kind ≠ 7)
def eval (l : List K) : Int × Int :=
  match expr 61 (inLine l) with
  | some (x, []) => if x.isBad then (0, 91) else comes x
  | _ => (0, 90)
end Ie
end Go.Proofs.YtognifnalfjdgaaGreatDoor

/- What is proved: what Tokens tells of any text: its tokens, in new memory. -/
namespace Go.Proofs.YtognifnalfjdgaaGreatDoor
open Go.RowKit Go.Shelf
open Lx (T)

theorem extract_list (s : ByteArray) (a b : Nat) : s.extract a b = ⟨((s.data.toList.drop a).take (b - a)).toArray⟩ := by
  apply ByteArray.ext
  apply Array.toList_inj.1
  rw [Lib.extract_data]

theorem row_below {W W' : World} {base e sz n : Nat} {v : Value} {cs : List Value} (h : W.ownsRow base e sz v n cs) (hb : Below W.heap.size W W') : W'.ownsRow base e sz v n cs := by
  refine ⟨h.1, ?_⟩
  rcases h.2 with h' | ⟨g, cap, cur, h', h1, h2, h3⟩
  · exact .inl h'
  · exact .inr ⟨g, cap, cur, h', h1, (hb.block g (Array.getElem?_eq_some_iff.1 h2).1).trans h2, h3⟩

set_option maxRecDepth 100000 in
set_option maxHeartbeats 8000000 in
theorem tokens_any (f : Int) (s : ByteArray) (hs : s.size ≤ 1000000000) (w : World) (hG : Glob w) :
    Calls Tryz.prog 10 #[.int .i64 f, .string s] w (ToksPost w f (Lx.tk false (Sp.left 0 s.data.toList))) := by
  obtain ⟨i0, hi, hz0, hz1, hz2⟩ := info_parts infoTok
  have HG := Lib.hid hG
  clear hG
  have hll := Sp.left_le 0 s.data.toList
  rw [size_list] at hll
  obtain ⟨l, hl⟩ : ∃ l, l = Sp.left 0 s.data.toList := ⟨_, rfl⟩
  rw [← hl] at hll ⊢
  have HL := Lib.hid hl
  have HP : Hid (∀ x ∈ l, x.2 < s.size) := Lib.hid (fun x hx => by rw [hl] at hx; have := Sp.left_lt hx; rw [size_list] at this; omega)
  clear hl
  go_enter Tryz.func10, Tryz.ntmps10
  go_wp2_with fail
  refine (join_any s (by omega) _ HG.out).mono ?_
  rintro e w1 ⟨cv, rfl, hcv, hB1⟩
  rw [← HL.out] at hcv
  obtain ⟨ad, cap, rfl, hc1, hc2, -⟩ := id hcv
  unfold maxLen at hc2
  go_wp2_with fail
  refine (text_any _ l _ hcv (by omega)).mono ?_
  rintro e w2 ⟨rfl, hB2⟩
  replace hcv := hcv.below hB2
  replace hB2 : Below w.heap.size w w2 := Below.trans hB1 (hB2.mono hB1.size)
  have hG2 := Lib.hid (HG.out.later hB2)
  obtain ⟨S, hS⟩ : ∃ S : ByteArray, S = ⟨(l.map Prod.fst).toArray⟩ := ⟨_, rfl⟩
  have hSl : S.data.toList = Lx.bytes l := by rw [hS]; rfl
  have hSz : S.size = l.length := by rw [hS, mk_size]; simp
  rw [← hS]
  rw [← hSz] at hll hc1 hcv ⊢
  have Hn := Lib.hid hSz
  have HS := Lib.hid hSl
  have HC := Lib.hid hcv
  have HB2 := Lib.hid hB2
  clear hS hSl hSz hcv hB1 hB2
  go_wp2_with fail
  go_loopw [7, 8, 9] (fun o p a wr => ∃ (k : Nat) (P : Bool) (acc : List T), a = .int .i64 k ∧ p = .bool P ∧ Sofar l k P acc ∧ wr.ownsRow w2.heap.size 54 6 o acc.length (tokCells f acc) ∧ Below w2.heap.size w2 wr) (fun _ _ a _ => S.size - (intOf a).toNat)
  case atStart => exact ⟨0, false, [], rfl, rfl, sofar_start _, World.ownsRow_nil _ _ _ _, Below.refl _ _⟩
  case round =>
    obtain ⟨k, P, acc, rfl, rfl, hsf, hrow, hB⟩ := hrel
    have hkl := hsf.1
    have hal := hsf.2.1
    rw [← Hn.out] at hkl
    by_cases hlt : k < S.size
    · have hlt' : k < l.length := by rw [← Hn.out]; exact hlt
      obtain ⟨B, hBk⟩ : ∃ B, B = Lx.blankLen (Lx.bytes (l.drop k)) := ⟨_, rfl⟩
      have HBk := Lib.hid hBk
      have hGr := Lib.hid (hG2.out.later hB)
      by_cases hb : 0 < B
      · obtain ⟨h1, h2⟩ := sofar_blank hsf (by rw [← hBk]; exact hb)
        rw [← hBk, ← Hn.out] at h1
        rw [← hBk] at h2
        clear hBk
        go_wp2_with fail
        refine (blank_any _ (by simp; omega) (by simp; omega) _ hGr.out).mono ?_
        rintro e w' ⟨rfl, rfl⟩
        rw [Lib.extract_to_end, HS.out, ← Lx.bytes_drop, ← HBk.out]
        go_wp2_with fail
        go_roundw
        case rel => exact ⟨k + B, true, acc, by go_num, rfl, h2, hrow, hB⟩
        case measure => simp [intOf]; omega
      · have hb0 : B = 0 := by omega
        obtain ⟨h1, h2, h3⟩ := sofar_tok hsf hlt' (by rw [← hBk]; exact hb0)
        obtain ⟨q, hq⟩ : ∃ q, q = Lx.first (Lx.bytes (l.drop k)) := ⟨_, rfl⟩
        obtain ⟨t, ht⟩ : ∃ t, t = Lx.tokAt P (l.drop k) := ⟨_, rfl⟩
        have htk : t.kind = q.1 := by rw [ht, hq]; rfl
        have htt : t.text = (Lx.bytes (l.drop k)).take q.2 := by rw [ht, hq]; rfl
        have htb : t.bl = P := by rw [ht]; rfl
        have htf : t.fr = (l.getD k (0, 0)).2 := by rw [ht]; unfold Lx.tokAt; simp [List.getD_eq_getElem?_getD]
        have hto : t.to = (l.getD (k + (q.2 - 1)) (0, 0)).2 + 1 := by rw [ht, hq]; unfold Lx.tokAt; simp [List.getD_eq_getElem?_getD]
        rw [← hq] at h1 h2 h3
        rw [← ht] at h3
        rw [← Hn.out] at h2
        obtain ⟨kd, m⟩ := q
        dsimp only at h1 h2 h3 htk htt hto
        have hxk : l[k]? = some (l.getD k (0, 0)) := by rw [List.getD_eq_getElem?_getD, List.getElem?_eq_getElem hlt']; rfl
        have hjl : k + (m - 1) < l.length := by rw [← Hn.out]; omega
        have hxj : l[k + (m - 1)]? = some (l.getD (k + (m - 1)) (0, 0)) := by rw [List.getD_eq_getElem?_getD, List.getElem?_eq_getElem hjl]; rfl
        have hpj := HP.out _ (List.mem_of_getElem? hxj)
        obtain ⟨g, o, had, -, -, -, hg, hcell⟩ := HC.out.cells (by omega)
        have c1 := (hcell k _ hxk).2
        have c2 := (hcell _ _ hxj).2
        rw [← htf] at c1
        obtain ⟨tl, htl⟩ : ∃ tl, tl = (l.getD (k + (m - 1)) (0, 0)).2 := ⟨_, rfl⟩
        rw [← htl] at c2 hto hpj
        subst had
        have HQ := Lib.hid hq
        have H3 := Lib.hid h3
        have HTk := Lib.hid htk
        have HTt := Lib.hid htt
        have HTo := Lib.hid hto
        have HTb := Lib.hid htb
        obtain ⟨j, hj⟩ : ∃ j, j = k + (m - 1) := ⟨_, rfl⟩
        rw [← hj] at c2
        have Hj := Lib.hid hj
        obtain ⟨fr, hfr⟩ : ∃ fr, fr = t.fr := ⟨_, rfl⟩
        rw [← hfr] at c1
        have HFr := Lib.hid hfr
        clear hq ht htk htt htb htf hto h3 hxk hjl hxj hcell htl hBk hfr hsf hj
        go_wp2_with fail
        refine (blank_any _ (by simp; omega) (by simp; omega) _ hGr.out).mono ?_
        rintro e w' ⟨rfl, rfl⟩
        rw [Lib.extract_to_end, HS.out, ← Lx.bytes_drop, ← HBk.out]
        go_wp2_with fail
        refine (first_any _ (by simp; omega) (by simp; omega) _ hGr.out).mono ?_
        rintro e w3 ⟨rfl, hB3⟩
        rw [Lib.extract_to_end, HS.out, ← Lx.bytes_drop, ← HQ.out]
        replace hrow := row_below hrow hB3
        replace hB3 : Below w2.heap.size w2 w3 := hB.trans (hB3.mono hB.size)
        have d1 : w3.cell? ⟨g, o + k * 2 + 1, none⟩ = some (.int .i64 fr) := (hB3.cell (p := ⟨g, o + k * 2 + 1, none⟩) hg).trans c1
        have d2 : w3.cell? ⟨g, o + j * 2 + 1, none⟩ = some (.int .i64 tl) := (hB3.cell (p := ⟨g, o + j * 2 + 1, none⟩) hg).trans c2
        clear hB c1 c2
        go_wp2_with fail
        have ag : u7.ownBlock ≠ some g := fun e => by have := (hrow.lt g e).1; omega
        have hw3 := hB3.size
        have z0 : (0 : Int) ≤ k := by omega
        have z1 : (k : Int) < S.size := by omega
        have z2 : (k : Int) ≤ (k : Int) + m := by omega
        have z3 : (k : Int) + m ≤ S.size := by omega
        have z4 : (0 : Int) ≤ (j : Int) := by omega
        have z5 : (j : Int) < S.size := by have := Hj.out; omega
        have z6 : (0 : Int) ≤ (k : Int) + m := by omega
        have hbb : (acc.length + 1) * 56 ≤ 140737488355328 := by omega
        have hmx : acc.length + 1 ≤ maxLen := by unfold maxLen; omega
        have e4 : ((k : Int) + m).toNat = k + m := by omega
        have e1 : IntKind.i64.wrap ((k : Int) + m) = (k : Int) + m := IntWalk.i64_in _ (by omega)
        have e2 : IntKind.i64.wrap ((k : Int) + m - 1) = (j : Int) := by rw [IntWalk.i64_in _ (by omega)]; have := Hj.out; omega
        have e3 : IntKind.i64.wrap ((tl : Int) + 1) = (tl : Int) + 1 := IntWalk.i64_in _ (by omega)
        go_region_held3 (fun w' => w'.cell? ⟨g, o + k * 2 + 1, none⟩ = some (.int .i64 fr) ∧ w'.cell? ⟨g, o + j * 2 + 1, none⟩ = some (.int .i64 tl))
          (first
            | go_keep
            | (go_split_ands
               refine ⟨?_, ?_⟩
               · (rw [hgrow.cell_far _ (by simp; omega) (Ne.symm ag)]; assumption)
               · (rw [hgrow.cell_far _ (by simp; omega) (Ne.symm ag)]; assumption)))
          ((refine step_append_lies _ (by rfl) _ _ _ (by rfl) w2.heap.size 54 i0 _ 6 56 Tryz.underlying26 hi hz0 hz1 hz2 rfl (by omega) u7 acc.length (tokCells f acc) (by rfl) ((hrow.alloc _).drew)
              ⟨w3.heap.size, 0, none⟩ 1 1 [.int .i64 kd, .string (S.extract k (k + m)), .int .i64 f, .int .i64 fr, .int .i64 ((tl : Int) + 1), .bool P] (by rfl) (by rfl) (World.news_of_block (cs := #[.int .i64 kd, .string (S.extract k (k + m)), .int .i64 f, .int .i64 fr, .int .i64 ((tl : Int) + 1), .bool P]) (t := 54) (fr := (0, 0)) (heap_alloc_new w3 _)) (by simp [Value.oneCell'])
              (by omega) hmx hbb (by simp; omega) (w3.heap.size + 1) (by simp) ?_; intro gg cap' w4 hown1 hgrow hat hlt4))
        clear e1 e2 e3 e4
        go_wp2_with fail
        go_roundw
        case rel =>
          refine ⟨k + m, false, acc ++ [t], by go_num, rfl, H3.out, ?_, ?_⟩
          · have hx : S.extract k (k + m) = ⟨t.text.toArray⟩ := by rw [extract_list, HS.out, ← Lx.bytes_drop, HTt.out, show k + m - k = m by omega]
            have hc : tokCells f (acc ++ [t]) = tokCells f acc ++ [.int .i64 kd, .string (S.extract k (k + m)), .int .i64 f, .int .i64 fr, .int .i64 ((tl : Int) + 1), .bool P] := by
              rw [tokCells_append, hx, HFr.out, show ((tl : Int) + 1) = ((t.to : Nat) : Int) by rw [HTo.out]; rfl, ← HTb.out, ← HTk.out]
              simp [tokCells, cellsOne]
            rw [hc, List.length_append]
            exact hown1
          · exact ((hB3.alloc hw3 _).drew).grown hgrow (by simp; omega) (fun i ei => (hrow.lt i ei).1)
        case measure => simp [intOf]; omega
    · have he := sofar_end hsf (by rw [← Hn.out]; omega)
      go_wp2_with fail
      go_ret
      rw [← he]
      exact ⟨_, rfl, Toks.of_row hrow, HB2.out.trans (hB.mono HB2.out.size)⟩
end Go.Proofs.YtognifnalfjdgaaGreatDoor

/- What is proved: what the document's own is, blank, word, number, quoted, sign and next tell of a text at a place. -/
namespace Go.Proofs.YtognifnalfjdgaaGreatDoor
open Go.RowKit Go.Shelf

theorem ba_beq (a b : ByteArray) : (a.toList == b.toList) = decide (a = b) := by
  rw [Bool.eq_iff_iff, beq_iff_eq, decide_eq_true_iff, Lib.toList_data, Lib.toList_data]
  constructor
  · intro e
    apply ByteArray.ext
    exact Array.toList_inj.1 e
  · intro e; rw [e]
theorem is_pre (s p : ByteArray) (i : Nat) : p.data.toList.isPrefixOf (s.data.toList.drop i) = decide (s.extract i (i + p.size) = p) := by
  rw [Bool.eq_iff_iff, List.isPrefixOf_iff_prefix, List.prefix_iff_eq_take, decide_eq_true_iff, extract_list, size_list, show i + p.size - i = p.size by omega]
  constructor
  · intro e
    apply ByteArray.ext
    apply Array.toList_inj.1
    rw [← e]
  · intro e
    exact (congrArg (fun b : ByteArray => b.data.toList) e).symm
theorem is_short (s p : ByteArray) (i : Nat) (h : ¬ i + p.size ≤ s.size) (hp : 0 < p.size) : p.data.toList.isPrefixOf (s.data.toList.drop i) = false := by
  refine pre_no _ _ ?_
  rw [List.length_drop, size_list, size_list]; omega

theorem isBl_range (c : UInt8) : Lx.isBl c = (((c.toNat : Int) == 32) || ((c.toNat : Int) == 9) || (decide (11 ≤ (c.toNat : Int)) && decide ((c.toNat : Int) ≤ 13))) := by
  rw [isBl_int, Bool.eq_iff_iff]
  simp
  omega
/-- Where what begins at k ends; i, if it is not closed. -/
def cend (i k : Nat) : Option Nat → Nat
  | none => i
  | some m => k + m + 2
theorem clos_hit (l : List UInt8) (h : [42, 47].isPrefixOf l = true) : Lx.clos l = some 0 := by
  match l, h with
  | c :: d :: r, h =>
    have e : Lx.clos (c :: d :: r) = if c = 42 ∧ d = 47 then some 0 else (Lx.clos (d :: r)).map (· + 1) := rfl
    simp only [List.isPrefixOf, Bool.and_true, Bool.and_eq_true, beq_iff_eq] at h
    rw [e, if_pos ⟨h.1.symm, h.2.symm⟩]
  | [c], h => simp [List.isPrefixOf] at h
  | [], h => simp [List.isPrefixOf] at h
theorem clos_on (c : UInt8) (r : List UInt8) (h : [42, 47].isPrefixOf (c :: r) = false) : Lx.clos (c :: r) = (Lx.clos r).map (· + 1) := by
  match r, h with
  | [], _ => rfl
  | d :: r, h =>
    have e : Lx.clos (c :: d :: r) = if c = 42 ∧ d = 47 then some 0 else (Lx.clos (d :: r)).map (· + 1) := rfl
    rw [e, if_neg]
    rintro ⟨rfl, rfl⟩
    simp [List.isPrefixOf] at h
theorem cend_map (i k : Nat) (o : Option Nat) : cend i k (o.map (· + 1)) = cend i (k + 1) o := by
  cases o with
  | none => rfl
  | some m => simp [cend]; omega
theorem pre_two (a b : UInt8) (l : List UInt8) (h : [a, b].isPrefixOf l = true) : ∃ r, l = a :: b :: r := by
  obtain ⟨r, e⟩ := List.isPrefixOf_iff_prefix.1 h
  exact ⟨r, e.symm⟩
theorem comment_line (l : List UInt8) (h : [47, 47].isPrefixOf l = true) : Lx.commentLen l = Lx.lineLen l := by
  obtain ⟨r, rfl⟩ := pre_two _ _ _ h
  rw [Lx.commentLen_cons, if_pos ⟨rfl, rfl⟩]
theorem comment_block (l : List UInt8) (h : [47, 42].isPrefixOf l = true) (i : Nat) : 2 ≤ l.length ∧ i + Lx.commentLen l = cend i (i + 2) (Lx.clos (l.drop 2)) := by
  obtain ⟨r, rfl⟩ := pre_two _ _ _ h
  refine ⟨by simp, ?_⟩
  rw [Lx.commentLen_cons, if_neg (by decide), if_pos ⟨rfl, rfl⟩, List.drop_succ_cons, List.drop_succ_cons, List.drop_zero]
  cases Lx.clos r with
  | none => rfl
  | some m => simp [Lx.upto, cend]; omega
theorem comment_no (l : List UInt8) (h1 : [47, 47].isPrefixOf l = false) (h2 : [47, 42].isPrefixOf l = false) : Lx.commentLen l = 0 := by
  match l, h1, h2 with
  | [], _, _ => rfl
  | [c], _, _ => rfl
  | c :: d :: r, h1, h2 =>
    rw [Lx.commentLen_cons, if_neg, if_neg]
    · rintro ⟨rfl, rfl⟩; simp [List.isPrefixOf] at h2
    · rintro ⟨rfl, rfl⟩; simp [List.isPrefixOf] at h1
theorem line_yes (c : UInt8) (r : List UInt8) (h : c ≠ 10) : Lx.lineLen (c :: r) = 1 + Lx.lineLen r := by
  unfold Lx.lineLen
  rw [List.takeWhile_cons, if_pos (by simpa using h)]; simp; omega
theorem line_no (r : List UInt8) : Lx.lineLen (10 :: r) = 0 := by
  unfold Lx.lineLen
  rw [List.takeWhile_cons, if_neg (by simp)]; rfl

/-- How long the name is with which a text begins, 0 if it begins with none. -/
def rword : List UInt8 → Nat
  | [] => 0
  | c :: r => if Lx.letter c then Lx.wordLen (c :: r) else 0
theorem rword_cons (c : UInt8) (r : List UInt8) : rword (c :: r) = if Lx.letter c then Lx.wordLen (c :: r) else 0 := rfl

end Go.Proofs.YtognifnalfjdgaaGreatDoor

/- What is proved: what the document's own number and quoted tell of a text at a place. -/
namespace Go.Proofs.YtognifnalfjdgaaGreatDoor
open Go.RowKit Go.Shelf

theorem expo_cons (s : ByteArray) (k : Nat) (h : k + 1 < s.size) : expo (s.data.toList.drop k) = (Lx.isE s[k] && Lx.isSg s[k + 1]) := by
  rw [drop_at s k (by omega), drop_at s (k + 1) h]; rfl
theorem expo_last (s : ByteArray) (k : Nat) (h : ¬ k + 1 < s.size) : expo (s.data.toList.drop k) = false := by
  have hl : (s.data.toList.drop k).length < 2 := by rw [List.length_drop, size_list]; omega
  match s.data.toList.drop k, hl with
  | [], _ => rfl
  | [c], _ => rfl
theorem isE_letter (c : UInt8) (h : Lx.isE c = true) : Lx.letter c = true := by
  rw [isE_int] at h
  rw [letter_int]
  simp at h ⊢
  omega

/-- Does a sign stand behind a place? -/
def sgAt (s : ByteArray) (k : Nat) : Bool := if h : k + 1 < s.size then Lx.isSg s[k + 1] else false
theorem expo_sg (s : ByteArray) (k : Nat) (h : k < s.size) : expo (s.data.toList.drop k) = (Lx.isE s[k] && sgAt s k) := by
  unfold sgAt
  by_cases h2 : k + 1 < s.size
  · rw [dif_pos h2, expo_cons s k h2]
  · rw [dif_neg h2, expo_last s k h2, Bool.and_false]
theorem sg_cases (s : ByteArray) (k : Nat) : (sgAt s k = false ∧ ¬ k + 1 < s.size) ∨ (sgAt s k = true ∧ ∃ h : k + 1 < s.size, ((s[k + 1].toNat : Int) == 43) = true) ∨
    (sgAt s k = true ∧ ∃ h : k + 1 < s.size, ((s[k + 1].toNat : Int) == 43) = false ∧ ((s[k + 1].toNat : Int) == 45) = true) ∨ (sgAt s k = false ∧ ∃ h : k + 1 < s.size, ((s[k + 1].toNat : Int) == 43) = false ∧ ((s[k + 1].toNat : Int) == 45) = false) := by
  unfold sgAt
  by_cases h2 : k + 1 < s.size
  · rw [dif_pos h2]
    have hsg := isSg_int s[k + 1]
    rw [hsg]
    cases h3 : ((s[k + 1].toNat : Int) == 43) with
    | true => exact .inr (.inl ⟨rfl, h2, h3⟩)
    | false =>
      cases h4 : ((s[k + 1].toNat : Int) == 45) with
      | true => exact .inr (.inr (.inl ⟨rfl, h2, h3, h4⟩))
      | false => exact .inr (.inr (.inr ⟨rfl, h2, h3, h4⟩))
  · rw [dif_neg h2]
    exact .inl ⟨rfl, h2⟩

theorem isE_cases (c : UInt8) (h : Lx.isE c = true) : ((c.toNat : Int) == 101) = true ∨ (((c.toNat : Int) == 101) = false ∧ ((c.toNat : Int) == 69) = true) ∨ (((c.toNat : Int) == 101) = false ∧ ((c.toNat : Int) == 69) = false ∧ ((c.toNat : Int) == 112) = true) ∨
    (((c.toNat : Int) == 101) = false ∧ ((c.toNat : Int) == 69) = false ∧ ((c.toNat : Int) == 112) = false ∧ ((c.toNat : Int) == 80) = true) := by
  rw [isE_int] at h
  revert h
  cases ((c.toNat : Int) == 101) <;> cases ((c.toNat : Int) == 69) <;> cases ((c.toNat : Int) == 112) <;> cases ((c.toNat : Int) == 80) <;> simp
theorem isE_none (c : UInt8) (h : Lx.isE c = false) : ((c.toNat : Int) == 101) = false ∧ ((c.toNat : Int) == 69) = false ∧ ((c.toNat : Int) == 112) = false ∧ ((c.toNat : Int) == 80) = false := by
  rw [isE_int] at h
  revert h
  cases ((c.toNat : Int) == 101) <;> cases ((c.toNat : Int) == 69) <;> cases ((c.toNat : Int) == 112) <;> cases ((c.toNat : Int) == 80) <;> simp
theorem numc_cases (c : UInt8) : (Lx.numc c = true ∧ (Lx.letter c = true ∨ (Lx.letter c = false ∧ Lx.digit c = true) ∨ (Lx.letter c = false ∧ Lx.digit c = false ∧ ((c.toNat : Int) == 46) = true))) ∨ (Lx.numc c = false ∧ Lx.letter c = false ∧ Lx.digit c = false ∧ ((c.toNat : Int) == 46) = false) := by
  rw [numc_parts]
  cases Lx.letter c <;> cases Lx.digit c <;> cases ((c.toNat : Int) == 46) <;> simp

/-- The round of number, from a place on: what it leaves is told. -/
theorem num_step (s : ByteArray) (i k R : Nat) (hk : i + k < s.size) (he : R = k + Lx.numRest (s.data.toList.drop (i + k))) :
    (expo (s.data.toList.drop (i + k)) = true → i + k + 2 ≤ s.size ∧ R = (k + 2) + Lx.numRest (s.data.toList.drop (i + (k + 2)))) ∧
    (expo (s.data.toList.drop (i + k)) = false → Lx.numc s[i + k] = true → R = (k + 1) + Lx.numRest (s.data.toList.drop (i + (k + 1)))) ∧
    (expo (s.data.toList.drop (i + k)) = false → Lx.numc s[i + k] = false → R = k) := by
  refine ⟨fun hx => ?_, fun hx hc => ?_, fun hx hc => ?_⟩
  · obtain ⟨h2, hn⟩ := num_two _ hx
    rw [List.length_drop, size_list] at h2
    rw [List.drop_drop] at hn
    refine ⟨by omega, ?_⟩
    rw [he, hn, show i + (k + 2) = i + k + 2 by omega]; omega
  · rw [drop_at s (i + k) hk] at hx he
    rw [he, num_one _ _ hx hc, show i + (k + 1) = i + k + 1 by omega]; omega
  · rw [drop_at s (i + k) hk] at hx he
    rw [he, num_no _ _ hx hc]; rfl

end Go.Proofs.YtognifnalfjdgaaGreatDoor

/- What is proved: what the document's own quoted and sign tell of a text at a place. -/
namespace Go.Proofs.YtognifnalfjdgaaGreatDoor
open Go.RowKit Go.Shelf

/-- How long what stands between two quotes is, nothing between single ones being none. -/
def rq (q : UInt8) (l : List UInt8) : Nat := if q = 39 ∧ Lx.closedLen q l = 2 then 0 else Lx.closedLen q l

/-- A slice of texts. -/
def Strs (W : World) (b : Nat) (L : List (List UInt8)) : Prop := ∀ k x, L[k]? = some x → W.cell? ⟨b, k, none⟩ = some (.string ⟨x.toArray⟩)
theorem any_take_succ (L : List (List UInt8)) (l : List UInt8) (k : Nat) (h : k < L.length) : (L.take (k + 1)).any (·.isPrefixOf l) = ((L.take k).any (·.isPrefixOf l) || L[k].isPrefixOf l) := by
  rw [List.take_succ_eq_append_getElem h, List.any_append]; simp

end Go.Proofs.YtognifnalfjdgaaGreatDoor

/- What is proved: what the document's own next and Tokens tell. -/
namespace Go.Proofs.YtognifnalfjdgaaGreatDoor
open Go.RowKit Go.Shelf
open Lx (T)

end Go.Proofs.YtognifnalfjdgaaGreatDoor

/- What is proved: what the document's own Tokens tells of any text. -/
namespace Go.Proofs.YtognifnalfjdgaaGreatDoor
open Go.RowKit Go.Shelf
open Lx (T)

end Go.Proofs.YtognifnalfjdgaaGreatDoor

/- What is proved: equality of tokens, as the model runs it. -/
namespace Go.Proofs.YtognifnalfjdgaaGreatDoor
open Go.RowKit Go.Shelf
open Lx (T)

theorem stoodTok : Tryz.prog.stoodInHeld 54 = false := by kernel_rfl
theorem partT0 (a b c d e f : Value) (w : World) : (part 3 #[a, b, c, d, e, f] 0).run Tryz.prog w = .ok a w := by kernel_rfl
theorem partT1 (a b c d e f : Value) (w : World) : (part 9 #[a, b, c, d, e, f] 1).run Tryz.prog w = .ok b w := by kernel_rfl
theorem partT2 (a b c d e f : Value) (w : World) : (part 3 #[a, b, c, d, e, f] 2).run Tryz.prog w = .ok c w := by kernel_rfl
theorem partT3 (a b c d e f : Value) (w : World) : (part 3 #[a, b, c, d, e, f] 3).run Tryz.prog w = .ok d w := by kernel_rfl
theorem partT4 (a b c d e f : Value) (w : World) : (part 3 #[a, b, c, d, e, f] 4).run Tryz.prog w = .ok e w := by kernel_rfl
theorem partT5 (a b c d e f : Value) (w : World) : (part 4 #[a, b, c, d, e, f] 5).run Tryz.prog w = .ok f w := by kernel_rfl
theorem eqInt (d : Nat) (a b : Int) (w : World) : (Op.equalIn (d + 1) 3 (.int .i64 a) (.int .i64 b)).run Tryz.prog w = .ok (a == b) w := by kernel_rfl
theorem eqStr (d : Nat) (a b : ByteArray) (w : World) : (Op.equalIn (d + 1) 9 (.string a) (.string b)).run Tryz.prog w = .ok (a == b) w := by kernel_rfl
theorem eqBool (d : Nat) (a b : Bool) (w : World) : (Op.equalIn (d + 1) 4 (.bool a) (.bool b)).run Tryz.prog w = .ok (a == b) w := by kernel_rfl

theorem run_sameTok (a : Int) (b : ByteArray) (c d e : Int) (f : Bool) (w : World) :
    (Op.equalIn 10000 54 (.agg #[.int .i64 a, .string b, .int .i64 c, .int .i64 d, .int .i64 e, .bool f]) (.agg #[.int .i64 a, .string b, .int .i64 c, .int .i64 d, .int .i64 e, .bool f])).run Tryz.prog w = .ok true w := by
  show (Op.equalIn (9998 + 1 + 1) 54 _ _).run Tryz.prog w = _
  rw [run_equalIn_struct w (9998 + 1) 54 _ _ (by simp [Program.fieldsOf, Tryz.underlying54]) stoodTok]
  simp only [Program.fieldsOf, Tryz.underlying54, Op.eqFields, Sem.run_bind, partT0, partT1, partT2, partT3, partT4, partT5, eqInt, eqStr, eqBool, Result.andThen_ok, Sem.run_ite, Sem.run_pure]
  simp [beq_toListBytes]

end Go.Proofs.YtognifnalfjdgaaGreatDoor

/- What is proved: a body, statement by statement: what stands behind so many statements; how one is walked alone. -/
namespace Go.Proofs.YtognifnalfjdgaaGreatDoor
open Go.RowKit Go.Shelf

/-- What stands behind so many statements. -/
def secs : Nat → Code → Code
  | 0, c => c
  | n + 1, .seq _ b => secs n b
  | _, c => c
def fstC : Code → Code
  | .seq a _ => a
  | c => c
def isSeq : Code → Bool
  | .seq _ _ => true
  | _ => false
theorem secs_succ : ∀ (n : Nat) (c : Code), isSeq (secs n c) = true → secs n c = .seq (fstC (secs n c)) (secs (n + 1) c)
  | 0, .seq a b, _ => rfl
  | n + 1, .seq a b, h => secs_succ n b h
  | n + 1, .skip, h => by simp [secs, isSeq] at h
  | n + 1, .region _ _ _, h => by simp [secs, isSeq] at h
  | n + 1, .cond _ _ _, h => by simp [secs, isSeq] at h
  | n + 1, .loop _, h => by simp [secs, isSeq] at h
  | n + 1, .block _ _, h => by simp [secs, isSeq] at h
  | n + 1, .scope _, h => by simp [secs, isSeq] at h
  | n + 1, .label _, h => by simp [secs, isSeq] at h
  | n + 1, .exit _, h => by simp [secs, isSeq] at h
  | n + 1, .goto _, h => by simp [secs, isSeq] at h
  | n + 1, .ret, h => by simp [secs, isSeq] at h
/-- A statement, and what stands behind it. -/
theorem wp_sec {P : Program} {Q : Exit → Act → World → Prop} {a : Act} {w : World} (n : Nat) (c : Code) (hs : isSeq (secs n c) = true)
    (h : (fstC (secs n c)).wp P (Exit.then (fun a w => (secs (n + 1) c).wp P Q a w) Q) a w) : (secs n c).wp P Q a w := by
  rw [secs_succ n c hs]
  exact wp_seq h

theorem lit_beq (t : ByteArray) (l : List UInt8) : (t.toList == l) = decide (t = ⟨l.toArray⟩) := by
  rw [← ba_beq, Lib.toList_data ⟨l.toArray⟩]
theorem lit_no {t : ByteArray} {l : List UInt8} (h : ¬ t = ⟨l.toArray⟩) : (t.toList == l) = false := by rw [lit_beq]; exact decide_eq_false h
theorem lit_yes {t : ByteArray} {l : List UInt8} (h : t = ⟨l.toArray⟩) : (t.toList == l) = true := by rw [lit_beq]; exact decide_eq_true h
theorem lit_ne {a b : ByteArray} (h : ¬ a = b) : (a.toList == b.toList) = false := by rw [ba_beq]; exact decide_eq_false h
theorem add_ba (a b c : ByteArray) (h : a.size + b.size ≤ 100000000000) (hc : c.data.toList = a.data.toList ++ b.data.toList) (w : World) : (Op.stringOp .add a b).run Tryz.prog w = .ok (.string c) w := by
  have e : c = a ++ b := by
    rw [← Go.Lib.mk_data a, ← Go.Lib.mk_data b, ByteArray.mk_append_mk, ← hc, Go.Lib.mk_data]
  rw [run_string_add_sum w _ _ (by omega), e]
theorem Ks.toks {W : World} {v : Value} {f : Int} {ts : List Lx.T} (h : Ks W v (ts.map (ofT f))) : Toks W v f ts := by
  obtain ⟨ad, cap, rfl, h1, h2, h3⟩ := h
  rw [List.length_map] at h1
  refine ⟨ad, cap, by rw [List.length_map], h1, h2, fun i t ht => ?_⟩
  exact h3 i (ofT f t) (by rw [List.getElem?_map, ht]; rfl)
theorem below_cof {W W' : World} {a : Addr} {v : Value} (h : Below W.heap.size W W') (hc : W.cell? a = some v) : W'.cell? a = some v := (h.cell (lt_of_cell hc)).trans hc
theorem box6_cells {W : World} {b t : Nat} {a0 a1 a2 a3 a4 a5 : Value} (h : W.heap[b]? = some (.cells #[a0, a1, a2, a3, a4, a5] t (0, 0))) :
    W.cell? ⟨b, 0, none⟩ = some a0 ∧ W.cell? ⟨b, 1, none⟩ = some a1 ∧ W.cell? ⟨b, 2, none⟩ = some a2 ∧ W.cell? ⟨b, 3, none⟩ = some a3 ∧ W.cell? ⟨b, 4, none⟩ = some a4 ∧ W.cell? ⟨b, 5, none⟩ = some a5 :=
  ⟨(Lib.cell_of_heap h 0).trans rfl, (Lib.cell_of_heap h 1).trans rfl, (Lib.cell_of_heap h 2).trans rfl, (Lib.cell_of_heap h 3).trans rfl, (Lib.cell_of_heap h 4).trans rfl, (Lib.cell_of_heap h 5).trans rfl⟩
end Go.Proofs.YtognifnalfjdgaaGreatDoor

/- Expressions in memory, as the program holds them behind its interface. -/
namespace Go.Proofs.YtognifnalfjdgaaGreatDoor
open Go.RowKit Go.Shelf
open Ie (E)

/-- So many more operands, joined from the left. -/
def Ie.fold (x : E) : List (ByteArray × E × Value) → E
  | [] => x
  | (s, y, _) :: r => Ie.fold (.bin s x y) r
theorem Ie.fold_snoc (x : E) (ys : List (ByteArray × E × Value)) (s : ByteArray) (y : E) (v : Value) : Ie.fold x (ys ++ [(s, y, v)]) = .bin s (Ie.fold x ys) y := by
  induction ys generalizing x with
  | nil => rfl
  | cons a r ih => obtain ⟨s', y', v'⟩ := a; exact ih _

/-- A value that is this expression, whose rows lie in blocks that may be used. -/
inductive Ex (w : World) (ok : Nat → Prop) : E → Value → Prop
  | num (n : Int) : Ex w ok (.num n) (.iface 133 (.int .i64 n))
  | bad : Ex w ok .bad (.iface 133 (.int .i64 0))
  | un (s : ByteArray) (x : E) (v : Value) : Ex w ok x v → Ex w ok (.un s x) (.iface 139 (.agg #[.string s, v]))
  | ask (x y z : E) (a b c : Value) : Ex w ok x a → Ex w ok y b → Ex w ok z c → Ex w ok (.ask x y z) (.iface 107 (.agg #[a, b, c]))
  | chain (x : E) (v : Value) (ys : List (ByteArray × E × Value)) (b cap : Nat) : Ex w ok x v → ok b → ys.length ≤ cap → cap ≤ maxLen →
      (∀ (i : Nat) s y u, ys[i]? = some (s, y, u) → Ie.lvS s ≠ 0 ∧ w.cell? ⟨b, i * 2, none⟩ = some (.string s) ∧ w.cell? ⟨b, i * 2 + 1, none⟩ = some u) →
      (∀ (i : Nat) s y u, ys[i]? = some (s, y, u) → Ex w ok y u) → Ex w ok (Ie.fold x ys) (.iface 124 (.agg #[v, .slice (some ⟨b, 0, none⟩) ys.length cap]))

theorem Ex.keep {w W : World} {ok ok' : Nat → Prop} {T : E} {v : Value} (h : Ex w ok T v) (hk : ∀ b, ok b → ok' b ∧ W.heap[b]? = w.heap[b]?) : Ex W ok' T v := by
  induction h with
  | num n => exact .num n
  | bad => exact .bad
  | un s x v _ ih => exact .un s x v ih
  | ask x y z a b c _ _ _ i1 i2 i3 => exact .ask x y z a b c i1 i2 i3
  | chain x v ys b cap _ hb h1 h2 h3 _ ix iy =>
    refine .chain x v ys b cap ix (hk b hb).1 h1 h2 (fun i s y u hi => ?_) iy
    obtain ⟨k0, k1, k2⟩ := h3 i s y u hi
    exact ⟨k0, (World.cell?_of_block (a := ⟨b, i * 2, none⟩) (hk b hb).2).trans k1, (World.cell?_of_block (a := ⟨b, i * 2 + 1, none⟩) (hk b hb).2).trans k2⟩

/-- What asking a value comes to. -/
def ValPost (T : E) (w : World) (e : Ending) (w' : World) : Prop := e = .returned (.tuple #[.int .i64 (Ie.comes T).1, .int .i64 (Ie.comes T).2]) ∧ Below w.heap.size w w'
def vname : String := "emend/ifexpr.value"
/-- A value that can be asked. -/
def VM (v : Value) (T : E) (w : World) : Prop :=
  ∃ t p f, v = .iface t p ∧ (∀ W, (nilAhead 273 t p "emend/ifexpr.value").run Tryz.prog W = .ok (some false) W) ∧ (∀ W, (method 273 t p "emend/ifexpr.value").run Tryz.prog W = .ok (f, p) W) ∧ (∀ W, (callFunc f #[p]).run Tryz.prog W = .ok (.enter f #[p]) W) ∧ Calls Tryz.prog f #[p] w (ValPost T w)

set_option maxRecDepth 100000 in
theorem vatom_any (n : Int) (w : World) : Calls Tryz.prog 150 #[.int .i64 n] w (ValPost (.num n) w) := by
  go_enter Tryz.func150, Tryz.ntmps150
  go_wp2_with fail
  go_returns
  exact ⟨rfl, Below.refl _ _⟩
theorem truth_any (b : Bool) (w : World) : Calls Tryz.prog 145 #[.bool b] w fun e w' => e = .returned (.int .i64 (Ie.one b)) ∧ w' = w := by
  go_enter Tryz.func145, Tryz.ntmps145
  cases b
  · go_wp2_with fail
    go_ret
    exact ⟨rfl, rfl⟩
  · go_wp2_with fail
    go_ret
    exact ⟨rfl, rfl⟩
theorem box3v {W : World} {b t : Nat} {a0 a1 a2 : Value} (h : W.heap[b]? = some (.cells #[a0, a1, a2] t (0, 0))) :
    W.cell? ⟨b, 0, none⟩ = some a0 ∧ W.cell? ⟨b, 1, none⟩ = some a1 ∧ W.cell? ⟨b, 2, none⟩ = some a2 :=
  ⟨(Lib.cell_of_heap h 0).trans rfl, (Lib.cell_of_heap h 1).trans rfl, (Lib.cell_of_heap h 2).trans rfl⟩
theorem box2v {W : World} {b t : Nat} {a0 a1 : Value} (h : W.heap[b]? = some (.cells #[a0, a1] t (0, 0))) :
    W.cell? ⟨b, 0, none⟩ = some a0 ∧ W.cell? ⟨b, 1, none⟩ = some a1 :=
  ⟨(Lib.cell_of_heap h 0).trans rfl, (Lib.cell_of_heap h 1).trans rfl⟩
theorem below_heap {W W' : World} {b : Nat} {o : Obj} (h : Below W.heap.size W W') (hb : W.heap[b]? = some o) : W'.heap[b]? = some o := (h.block b (Array.getElem?_eq_some_iff.1 hb).1).trans hb

set_option maxRecDepth 100000 in
set_option maxHeartbeats 1000000 in
theorem choice_any (x y z : E) (a b c : Value) (w : World) (ha : ∀ W, Below w.heap.size w W → VM a x W) (hb : ∀ W, Below w.heap.size w W → VM b y W) (hc : ∀ W, Below w.heap.size w W → VM c z W) :
    Calls Tryz.prog 140 #[.agg #[a, b, c]] w (ValPost (.ask x y z) w) := by
  have HA := Lib.hid ha
  have HB := Lib.hid hb
  have HC := Lib.hid hc
  clear ha hb hc
  have hB1 : Below w.heap.size w (w.alloc (.cells #[a, b, c] 107)) := Below.alloc (Below.refl _ _) (Nat.le_refl _) _
  have hbx : (w.alloc (.cells #[a, b, c] 107)).heap[w.heap.size]? = some (.cells #[a, b, c] 107 (0, 0)) := heap_alloc_new w _
  obtain ⟨t, p, f, rfl, hn, hm, he, hcl⟩ := HA.out _ hB1
  obtain ⟨ex, hex⟩ : ∃ ex, ex = (Ie.comes x).2 := ⟨_, rfl⟩
  obtain ⟨vx, hvx⟩ : ∃ vx, vx = (Ie.comes x).1 := ⟨_, rfl⟩
  have HM := Lib.hid hcl
  have HB1 := Lib.hid hB1
  have HX := Lib.hid hbx
  have HE := Lib.hid hex
  have HV := Lib.hid hvx
  clear hcl hB1 hbx hex hvx
  go_enter Tryz.func140, Tryz.ntmps140
  go_wp2_with fail
  refine HM.out.mono ?_
  rintro e w2 ⟨rfl, hB2⟩
  rw [← HE.out, ← HV.out]
  have hb2 := below_heap hB2 HX.out
  obtain ⟨-, k1, k2⟩ := box3v hb2
  have hw2 := Below.then HB1.out hB2
  have HW2 := Lib.hid hw2
  clear hB2 hb2 hw2 hn hm he HM
  by_cases h0 : ex = 0
  · by_cases h1 : vx = 0
    · obtain ⟨t', p', f', rfl, hn, hm, he, hcl⟩ := HC.out _ HW2.out
      have HM := Lib.hid hcl
      clear hcl
      go_wp2_with fail
      refine HM.out.mono ?_
      rintro e w3 ⟨rfl, hB3⟩
      go_wp2_with fail
      go_ret2
      refine ⟨?_, Below.then HW2.out hB3⟩
      simp only [Ie.comes]
      rw [← HE.out, ← HV.out, if_neg (fun h => h h0), if_neg (fun h => h h1)]
      rfl
    · obtain ⟨t', p', f', rfl, hn, hm, he, hcl⟩ := HB.out _ HW2.out
      have HM := Lib.hid hcl
      clear hcl
      go_wp2_with fail
      refine HM.out.mono ?_
      rintro e w3 ⟨rfl, hB3⟩
      go_wp2_with fail
      go_ret2
      refine ⟨?_, Below.then HW2.out hB3⟩
      simp only [Ie.comes]
      rw [← HE.out, ← HV.out, if_neg (fun h => h h0), if_pos h1]
      rfl
  · go_wp2_with fail
    go_ret2
    refine ⟨?_, HW2.out⟩
    simp only [Ie.comes]
    rw [← HE.out, if_pos h0]
    rfl

theorem wrap64_w (n : Int) : wrap64 n = Ie.w64 n := by simp only [wrap64, Ie.w64, IntKind.wrap_i64]
theorem xor64 (n : Int) : IntKind.i64.wrap ((BitVec.ofInt 64 (-1) ^^^ BitVec.ofInt 64 n).toNat : Int) = IntKind.i64.wrap (-1 - n) := by
  have h : BitVec.ofInt 64 (-1) ^^^ BitVec.ofInt 64 n = ~~~ (BitVec.ofInt 64 n) := by
    rw [show BitVec.ofInt 64 (-1) = BitVec.allOnes 64 by decide, BitVec.allOnes_xor]
  rw [h, BitVec.toNat_not, IntKind.wrap_i64, IntKind.wrap_i64]
  have := (BitVec.ofInt 64 n).isLt
  have e : ((BitVec.ofInt 64 n).toNat : Int) = n % 18446744073709551616 := by rw [BitVec.toNat_ofInt]; omega
  omega

set_option maxRecDepth 100000 in
set_option maxHeartbeats 1000000 in
theorem ahead_any (s : ByteArray) (x : E) (a : Value) (w : World) (ha : ∀ W, Below w.heap.size w W → VM a x W) :
    Calls Tryz.prog 152 #[.agg #[.string s, a]] w (ValPost (.un s x) w) := by
  have hB1 : Below w.heap.size w (w.alloc (.cells #[.string s, a] 139)) := Below.alloc (Below.refl _ _) (Nat.le_refl _) _
  have hbx : (w.alloc (.cells #[.string s, a] 139)).heap[w.heap.size]? = some (.cells #[.string s, a] 139 (0, 0)) := heap_alloc_new w _
  obtain ⟨t, p, f, rfl, hn, hm, he, hcl⟩ := ha _ hB1
  obtain ⟨ex, hex⟩ : ∃ ex, ex = (Ie.comes x).2 := ⟨_, rfl⟩
  obtain ⟨vx, hvx⟩ : ∃ vx, vx = (Ie.comes x).1 := ⟨_, rfl⟩
  have HM := Lib.hid hcl
  have HB1 := Lib.hid hB1
  have HX := Lib.hid hbx
  have HE := Lib.hid hex
  have HV := Lib.hid hvx
  clear hcl hB1 hbx hex hvx ha
  go_enter Tryz.func152, Tryz.ntmps152
  go_wp2_with fail
  refine HM.out.mono ?_
  rintro e w2 ⟨rfl, hB2⟩
  rw [← HE.out, ← HV.out]
  have hb2 := below_heap hB2 HX.out
  obtain ⟨k0, -⟩ := box2v hb2
  have hw2 := Below.then HB1.out hB2
  have HW2 := Lib.hid hw2
  clear hB2 hb2 hw2 hn hm he HM
  by_cases h0 : ex = 0
  · by_cases h1 : s = Ie.sSub
    · have e1 : (s.toList == [45]) = true := lit_yes h1
      have G1 := Lib.hid h1
      clear h1
      go_wp2_with fail
      go_ret2
      refine ⟨?_, HW2.out⟩
      simp only [Ie.comes, Ie.una]
      rw [← HE.out, ← HV.out, if_neg (fun h => h h0), if_pos G1.out]
      rw [wrap64_w, Int.zero_sub]
      rfl
    · have e1 : (s.toList == [45]) = false := lit_no h1
      have G1 := Lib.hid h1
      clear h1
      by_cases h2 : s = Ie.sNot
      · have e2 : (s.toList == [33]) = true := lit_yes h2
        have G2 := Lib.hid h2
        clear h2
        go_wp2_with fail
        refine (truth_any _ _).mono ?_
        rintro e w3 ⟨rfl, rfl⟩
        go_wp2_with fail
        go_ret2
        refine ⟨?_, HW2.out⟩
        simp only [Ie.comes, Ie.una]
        rw [← HE.out, ← HV.out, if_neg (fun h => h h0), if_neg G1.out, if_pos G2.out]
        rfl
      · have e2 : (s.toList == [33]) = false := lit_no h2
        have G2 := Lib.hid h2
        clear h2
        by_cases h3 : s = Ie.sTil
        · have e3 : (s.toList == [126]) = true := lit_yes h3
          have G3 := Lib.hid h3
          clear h3
          go_wp2_with fail
          go_ret2
          refine ⟨?_, HW2.out⟩
          simp only [Ie.comes, Ie.una]
          rw [← HE.out, ← HV.out, if_neg (fun h => h h0), if_neg G1.out, if_neg G2.out, if_pos G3.out]
          simp only [Ie.w64, ← xor64]
          try rfl
        · have e3 : (s.toList == [126]) = false := lit_no h3
          have G3 := Lib.hid h3
          clear h3
          go_wp2_with fail
          go_ret2
          refine ⟨?_, HW2.out⟩
          simp only [Ie.comes, Ie.una]
          rw [← HE.out, ← HV.out, if_neg (fun h => h h0), if_neg G1.out, if_neg G2.out, if_neg G3.out]
          rfl
  · go_wp2_with fail
    go_ret2
    refine ⟨?_, HW2.out⟩
    simp only [Ie.comes]
    rw [← HE.out, if_pos h0]
    rfl
end Go.Proofs.YtognifnalfjdgaaGreatDoor
