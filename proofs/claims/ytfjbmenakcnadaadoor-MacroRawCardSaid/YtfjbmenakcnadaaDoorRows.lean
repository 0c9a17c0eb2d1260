/-
  NARROWER THAN 'FOR EVERY INPUT', by the rows' own cells (each row's printed sentence says how): MacroDefines: laid · MacroRaw: laid · MacroTells: laid · MacroBack: laid · MacroSame: laid · MacroParams: laid.
  DERIVED. THE GIVEN ROWS OF THIS SEAT. 6 by the template 'for every input the law returns true; each argument reads behind the call as it read before'; 0 by the template 'total and deterministic' (their statements: YtfjbmenakcnadaaDoorTotals.lean).
  GIVEN WITH THE SEED: the statements are not yours to turn. If you find one false, say at which input.
  Laid BY PROGRAM, IN A SANDBOX (cutbox-rows.mjs): the forced cells as the released guide's own fill.sh prints them over the translation bfdf26a3f66de1eb… (all of the seat's roots in one cut). By AI agents, Wed Nov 11 2026. No macro, syntax, notation, axiom, sorry.
-/
import Derived.Test.YtfjbmenakcnadaaDoorChecked
import GoSem.Claim
import GoSem.ClaimJoined
import GoSem.ClaimMapViews
import Derived.JoinedTies
import Derived.KernelRfl
namespace Go.Proofs.YtfjbmenakcnadaaDoor
/- THE CELL 'sum', in the pinned program and in every row, IS THE sha256 OF THE DUMP (.gsa) THAT YtfjbmenakcnadaaDoorProg.lean LOADS. Nothing in Lean hashes anything: it is a label: what it is worth is what the hold of that sum in a sandbox is worth. -/
noncomputable def Tryd.pinned : Pinned := { name := "ytfjbmenakcnadaadoor", sum := "bfdf26a3f66de1eb97a8c5bcb6211fed288ded5c19343d8fde09e69bf4519ddc", checked := Tryd.checked }
namespace Rows
def none {H : Type} : Left H := { results := [], args := [] }

/- WHAT THE LISTED PACKAGE-LEVEL VARIABLES READ AS WHEN THE CALL BEGINS. Each datum BY PROGRAM (the guide's laid-datum.mjs) off the statement by which the dump's own 'gosem.cut.vars' lays the variable. In a bare row this is a premise. The card (YtfjbmenakcnadaaDoorCards.lean) ties it to the program's text. -/
def laid_emend_pptok_signs {H : Type} : DataW H := .agg [.lit (.string [46, 46, 46]), .lit (.string [60, 60, 61]), .lit (.string [62, 62, 61]), .lit (.string [45, 62]), .lit (.string [43, 43]), .lit (.string [45, 45]), .lit (.string [60, 60]), .lit (.string [62, 62]), .lit (.string [60, 61]), .lit (.string [62, 61]), .lit (.string [61, 61]), .lit (.string [33, 61]), .lit (.string [38, 38]), .lit (.string [124, 124]), .lit (.string [42, 61]), .lit (.string [47, 61]), .lit (.string [37, 61]), .lit (.string [43, 61]), .lit (.string [45, 61]), .lit (.string [38, 61]), .lit (.string [94, 61]), .lit (.string [124, 61]), .lit (.string [35, 35]), .lit (.string [91]), .lit (.string [93]), .lit (.string [40]), .lit (.string [41]), .lit (.string [123]), .lit (.string [125]), .lit (.string [46]), .lit (.string [38]), .lit (.string [42]), .lit (.string [43]), .lit (.string [45]), .lit (.string [126]), .lit (.string [33]), .lit (.string [47]), .lit (.string [37]), .lit (.string [60]), .lit (.string [62]), .lit (.string [94]), .lit (.string [124]), .lit (.string [63]), .lit (.string [58]), .lit (.string [59]), .lit (.string [61]), .lit (.string [44]), .lit (.string [35])]

/-- 'emendlaw06.MacroDefines': WHATEVER THE INPUT: true; the input reads as it did. -/
def macroDefinesSpec : ChangeSpec := { name := "macroDefines", fn := fun _ => fun
  | [d] => { results := [.lit (.bool true)], args := [d] }
  | _ => none }
def macroDefinesRow : OpenClaim := { program := "ytfjbmenakcnadaadoor", sum := "bfdf26a3f66de1eb97a8c5bcb6211fed288ded5c19343d8fde09e69bf4519ddc", func := "emend/emendlaw06.MacroDefines", spec := "macroDefines", inPlace := ["internal/bytealg.CountString", "internal/bytealg.IndexByteString", "internal/bytealg.IndexString", "internal/abi.NoEscape"], unfollowed := true, recurses := true, named := ["internal/bytealg.MaxLen", "emend/pptok.signs"], apart := false, laid := [("emend/pptok.signs", laid_emend_pptok_signs)] }
def MacroDefinesSaid : Prop := macroDefinesRow.holds Tryd.pinned (OpenSpec.ofChange macroDefinesSpec)

/-- ITS FALSE NEIGHBOUR: 'it returns false'. Refute it at one input. -/
def macroDefinesWrong : ChangeSpec := { name := "macroDefines", fn := fun _ => fun
  | [d] => { results := [.lit (.bool false)], args := [d] }
  | _ => none }
def MacroDefinesWrongFalsely : Prop := macroDefinesRow.holds Tryd.pinned (OpenSpec.ofChange macroDefinesWrong)

/-- 'emendlaw06.MacroRaw': WHATEVER THE INPUT: true; the input reads as it did. -/
def macroRawSpec : ChangeSpec := { name := "macroRaw", fn := fun _ => fun
  | [d] => { results := [.lit (.bool true)], args := [d] }
  | _ => none }
def macroRawRow : OpenClaim := { program := "ytfjbmenakcnadaadoor", sum := "bfdf26a3f66de1eb97a8c5bcb6211fed288ded5c19343d8fde09e69bf4519ddc", func := "emend/emendlaw06.MacroRaw", spec := "macroRaw", inPlace := ["internal/bytealg.CountString", "internal/bytealg.IndexByteString", "internal/bytealg.IndexString", "internal/abi.NoEscape"], unfollowed := true, recurses := true, named := ["internal/bytealg.MaxLen", "emend/pptok.signs"], apart := false, laid := [("emend/pptok.signs", laid_emend_pptok_signs)] }
def MacroRawSaid : Prop := macroRawRow.holds Tryd.pinned (OpenSpec.ofChange macroRawSpec)

/-- ITS FALSE NEIGHBOUR: 'it returns false'. Refute it at one input. -/
def macroRawWrong : ChangeSpec := { name := "macroRaw", fn := fun _ => fun
  | [d] => { results := [.lit (.bool false)], args := [d] }
  | _ => none }
def MacroRawWrongFalsely : Prop := macroRawRow.holds Tryd.pinned (OpenSpec.ofChange macroRawWrong)

/-- 'emendlaw06.MacroTells': WHATEVER THE INPUT: true; the input reads as it did. -/
def macroTellsSpec : ChangeSpec := { name := "macroTells", fn := fun _ => fun
  | [d1, d2, d3] => { results := [.lit (.bool true)], args := [d1, d2, d3] }
  | _ => none }
def macroTellsRow : OpenClaim := { program := "ytfjbmenakcnadaadoor", sum := "bfdf26a3f66de1eb97a8c5bcb6211fed288ded5c19343d8fde09e69bf4519ddc", func := "emend/emendlaw06.MacroTells", spec := "macroTells", inPlace := ["internal/bytealg.CountString", "internal/bytealg.IndexByteString", "internal/bytealg.IndexString", "internal/abi.NoEscape", "internal/bytealg.MakeNoZero"], unfollowed := true, recurses := true, named := ["internal/bytealg.MaxLen", "emend/pptok.signs"], apart := false, laid := [("emend/pptok.signs", laid_emend_pptok_signs)] }
def MacroTellsSaid : Prop := macroTellsRow.holds Tryd.pinned (OpenSpec.ofChange macroTellsSpec)

/-- ITS FALSE NEIGHBOUR: 'it returns false'. Refute it at one input. -/
def macroTellsWrong : ChangeSpec := { name := "macroTells", fn := fun _ => fun
  | [d1, d2, d3] => { results := [.lit (.bool false)], args := [d1, d2, d3] }
  | _ => none }
def MacroTellsWrongFalsely : Prop := macroTellsRow.holds Tryd.pinned (OpenSpec.ofChange macroTellsWrong)

/-- 'emendlaw06.MacroBack': WHATEVER THE INPUT: true; the input reads as it did. -/
def macroBackSpec : ChangeSpec := { name := "macroBack", fn := fun _ => fun
  | [d] => { results := [.lit (.bool true)], args := [d] }
  | _ => none }
def macroBackRow : OpenClaim := { program := "ytfjbmenakcnadaadoor", sum := "bfdf26a3f66de1eb97a8c5bcb6211fed288ded5c19343d8fde09e69bf4519ddc", func := "emend/emendlaw06.MacroBack", spec := "macroBack", inPlace := ["internal/bytealg.CountString", "internal/bytealg.IndexByteString", "internal/bytealg.IndexString", "internal/abi.NoEscape", "internal/bytealg.MakeNoZero"], unfollowed := true, recurses := true, named := ["internal/bytealg.MaxLen", "emend/pptok.signs"], apart := false, laid := [("emend/pptok.signs", laid_emend_pptok_signs)] }
def MacroBackSaid : Prop := macroBackRow.holds Tryd.pinned (OpenSpec.ofChange macroBackSpec)

/-- ITS FALSE NEIGHBOUR: 'it returns false'. Refute it at one input. -/
def macroBackWrong : ChangeSpec := { name := "macroBack", fn := fun _ => fun
  | [d] => { results := [.lit (.bool false)], args := [d] }
  | _ => none }
def MacroBackWrongFalsely : Prop := macroBackRow.holds Tryd.pinned (OpenSpec.ofChange macroBackWrong)

/-- 'emendlaw06.MacroSame': WHATEVER THE INPUT: true; the input reads as it did. -/
def macroSameSpec : ChangeSpec := { name := "macroSame", fn := fun _ => fun
  | [d1, d2, d3] => { results := [.lit (.bool true)], args := [d1, d2, d3] }
  | _ => none }
def macroSameRow : OpenClaim := { program := "ytfjbmenakcnadaadoor", sum := "bfdf26a3f66de1eb97a8c5bcb6211fed288ded5c19343d8fde09e69bf4519ddc", func := "emend/emendlaw06.MacroSame", spec := "macroSame", inPlace := ["internal/bytealg.CountString", "internal/bytealg.IndexByteString", "internal/bytealg.IndexString", "internal/abi.NoEscape"], unfollowed := true, recurses := true, named := ["internal/bytealg.MaxLen", "emend/pptok.signs"], apart := false, laid := [("emend/pptok.signs", laid_emend_pptok_signs)] }
def MacroSameSaid : Prop := macroSameRow.holds Tryd.pinned (OpenSpec.ofChange macroSameSpec)

/-- ITS FALSE NEIGHBOUR: 'it returns false'. Refute it at one input. -/
def macroSameWrong : ChangeSpec := { name := "macroSame", fn := fun _ => fun
  | [d1, d2, d3] => { results := [.lit (.bool false)], args := [d1, d2, d3] }
  | _ => none }
def MacroSameWrongFalsely : Prop := macroSameRow.holds Tryd.pinned (OpenSpec.ofChange macroSameWrong)

/-- 'emendlaw06.MacroParams': WHATEVER THE INPUT: true; the input reads as it did. -/
def macroParamsSpec : ChangeSpec := { name := "macroParams", fn := fun _ => fun
  | [d1, d2] => { results := [.lit (.bool true)], args := [d1, d2] }
  | _ => none }
def macroParamsRow : OpenClaim := { program := "ytfjbmenakcnadaadoor", sum := "bfdf26a3f66de1eb97a8c5bcb6211fed288ded5c19343d8fde09e69bf4519ddc", func := "emend/emendlaw06.MacroParams", spec := "macroParams", inPlace := ["internal/bytealg.CountString", "internal/bytealg.IndexByteString", "internal/bytealg.IndexString", "internal/abi.NoEscape"], unfollowed := true, recurses := true, named := ["internal/bytealg.MaxLen", "emend/pptok.signs"], apart := false, laid := [("emend/pptok.signs", laid_emend_pptok_signs)] }
def MacroParamsSaid : Prop := macroParamsRow.holds Tryd.pinned (OpenSpec.ofChange macroParamsSpec)

/-- ITS FALSE NEIGHBOUR: 'it returns false'. Refute it at one input. -/
def macroParamsWrong : ChangeSpec := { name := "macroParams", fn := fun _ => fun
  | [d1, d2] => { results := [.lit (.bool false)], args := [d1, d2] }
  | _ => none }
def MacroParamsWrongFalsely : Prop := macroParamsRow.holds Tryd.pinned (OpenSpec.ofChange macroParamsWrong)

/- THE SECOND FORM. 'bulk': how many values and letters a reading holds, each counted each time it is reached (what is shared counts as often as it is met; a slice's spare places count too). A statement '..UptoSaid' is the law's where the arguments, and the package variables that the reading takes, are together of bulk at most 1048576: NARROWER than '..Said'. Prove '..Said' where nothing that the law and all that it calls make is longer than what came in: it says more and counts as full. Else prove '..UptoSaid'. A law counts once. -/
mutual
def uptoBulk {H : Type} : DataW H → Nat
  | .lit (.string bytes) => bytes.length + 1
  | .lit _ => 1
  | .nil => 1
  | .ptr d => uptoBulk d + 1
  | .slice elems spare => uptoBulkAll elems + uptoBulkAll spare + 1
  | .agg parts => uptoBulkAll parts + 1
  | .iface _ d => uptoBulk d + 1
  | .map entries => uptoBulkEntries entries + 1
  | .held _ => 1
def uptoBulkAll {H : Type} : List (DataW H) → Nat
  | [] => 0
  | d :: r => uptoBulk d + uptoBulkAll r
def uptoBulkEntries {H : Type} : List (Lit × DataW H) → Nat
  | [] => 0
  | x :: r => uptoBulkEntry x + uptoBulkEntries r
def uptoBulkEntry {H : Type} : Lit × DataW H → Nat
  | (.string bytes, d) => bytes.length + uptoBulk d + 1
  | (_, d) => uptoBulk d + 1
 end
def uptoSmall : (H : Type) → List (DataW H) → Bool := fun _ ds => decide (uptoBulkAll ds ≤ 1048576)
def OpenSpec.upto (s : _root_.Go.ChangeSpec) : _root_.Go.OpenSpec := { _root_.Go.OpenSpec.ofChange s with cond := some uptoSmall }

/-- 'emendlaw06.MacroDefines', WHERE WHAT IT READS IS OF BULK AT MOST 1048576: true; the input reads as it did. -/
def macroDefinesUptoRow : OpenClaim := { program := "ytfjbmenakcnadaadoor", sum := "bfdf26a3f66de1eb97a8c5bcb6211fed288ded5c19343d8fde09e69bf4519ddc", func := "emend/emendlaw06.MacroDefines", spec := "macroDefines", inPlace := ["internal/bytealg.CountString", "internal/bytealg.IndexByteString", "internal/bytealg.IndexString", "internal/abi.NoEscape"], unfollowed := true, recurses := true, named := ["internal/bytealg.MaxLen", "emend/pptok.signs"], apart := false, laid := [("emend/pptok.signs", laid_emend_pptok_signs)], narrowed := true }
def MacroDefinesUptoSaid : Prop := macroDefinesUptoRow.holds Tryd.pinned (OpenSpec.upto macroDefinesSpec)

/-- 'emendlaw06.MacroRaw', WHERE WHAT IT READS IS OF BULK AT MOST 1048576: true; the input reads as it did. -/
def macroRawUptoRow : OpenClaim := { program := "ytfjbmenakcnadaadoor", sum := "bfdf26a3f66de1eb97a8c5bcb6211fed288ded5c19343d8fde09e69bf4519ddc", func := "emend/emendlaw06.MacroRaw", spec := "macroRaw", inPlace := ["internal/bytealg.CountString", "internal/bytealg.IndexByteString", "internal/bytealg.IndexString", "internal/abi.NoEscape"], unfollowed := true, recurses := true, named := ["internal/bytealg.MaxLen", "emend/pptok.signs"], apart := false, laid := [("emend/pptok.signs", laid_emend_pptok_signs)], narrowed := true }
def MacroRawUptoSaid : Prop := macroRawUptoRow.holds Tryd.pinned (OpenSpec.upto macroRawSpec)

/-- 'emendlaw06.MacroTells', WHERE WHAT IT READS IS OF BULK AT MOST 1048576: true; the input reads as it did. -/
def macroTellsUptoRow : OpenClaim := { program := "ytfjbmenakcnadaadoor", sum := "bfdf26a3f66de1eb97a8c5bcb6211fed288ded5c19343d8fde09e69bf4519ddc", func := "emend/emendlaw06.MacroTells", spec := "macroTells", inPlace := ["internal/bytealg.CountString", "internal/bytealg.IndexByteString", "internal/bytealg.IndexString", "internal/abi.NoEscape", "internal/bytealg.MakeNoZero"], unfollowed := true, recurses := true, named := ["internal/bytealg.MaxLen", "emend/pptok.signs"], apart := false, laid := [("emend/pptok.signs", laid_emend_pptok_signs)], narrowed := true }
def MacroTellsUptoSaid : Prop := macroTellsUptoRow.holds Tryd.pinned (OpenSpec.upto macroTellsSpec)

/-- 'emendlaw06.MacroBack', WHERE WHAT IT READS IS OF BULK AT MOST 1048576: true; the input reads as it did. -/
def macroBackUptoRow : OpenClaim := { program := "ytfjbmenakcnadaadoor", sum := "bfdf26a3f66de1eb97a8c5bcb6211fed288ded5c19343d8fde09e69bf4519ddc", func := "emend/emendlaw06.MacroBack", spec := "macroBack", inPlace := ["internal/bytealg.CountString", "internal/bytealg.IndexByteString", "internal/bytealg.IndexString", "internal/abi.NoEscape", "internal/bytealg.MakeNoZero"], unfollowed := true, recurses := true, named := ["internal/bytealg.MaxLen", "emend/pptok.signs"], apart := false, laid := [("emend/pptok.signs", laid_emend_pptok_signs)], narrowed := true }
def MacroBackUptoSaid : Prop := macroBackUptoRow.holds Tryd.pinned (OpenSpec.upto macroBackSpec)

/-- 'emendlaw06.MacroSame', WHERE WHAT IT READS IS OF BULK AT MOST 1048576: true; the input reads as it did. -/
def macroSameUptoRow : OpenClaim := { program := "ytfjbmenakcnadaadoor", sum := "bfdf26a3f66de1eb97a8c5bcb6211fed288ded5c19343d8fde09e69bf4519ddc", func := "emend/emendlaw06.MacroSame", spec := "macroSame", inPlace := ["internal/bytealg.CountString", "internal/bytealg.IndexByteString", "internal/bytealg.IndexString", "internal/abi.NoEscape"], unfollowed := true, recurses := true, named := ["internal/bytealg.MaxLen", "emend/pptok.signs"], apart := false, laid := [("emend/pptok.signs", laid_emend_pptok_signs)], narrowed := true }
def MacroSameUptoSaid : Prop := macroSameUptoRow.holds Tryd.pinned (OpenSpec.upto macroSameSpec)

/-- 'emendlaw06.MacroParams', WHERE WHAT IT READS IS OF BULK AT MOST 1048576: true; the input reads as it did. -/
def macroParamsUptoRow : OpenClaim := { program := "ytfjbmenakcnadaadoor", sum := "bfdf26a3f66de1eb97a8c5bcb6211fed288ded5c19343d8fde09e69bf4519ddc", func := "emend/emendlaw06.MacroParams", spec := "macroParams", inPlace := ["internal/bytealg.CountString", "internal/bytealg.IndexByteString", "internal/bytealg.IndexString", "internal/abi.NoEscape"], unfollowed := true, recurses := true, named := ["internal/bytealg.MaxLen", "emend/pptok.signs"], apart := false, laid := [("emend/pptok.signs", laid_emend_pptok_signs)], narrowed := true }
def MacroParamsUptoSaid : Prop := macroParamsUptoRow.holds Tryd.pinned (OpenSpec.upto macroParamsSpec)

end Rows
end Go.Proofs.YtfjbmenakcnadaaDoor
