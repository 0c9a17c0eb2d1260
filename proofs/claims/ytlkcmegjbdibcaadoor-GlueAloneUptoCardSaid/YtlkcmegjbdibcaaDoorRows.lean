/-
  NARROWER THAN 'FOR EVERY INPUT', by the rows' own cells (each row's printed sentence says how): GlueTexts: laid · GluePastes: laid · GlueQuotes: laid · GlueBack: laid · GlueAlone: laid.
  DERIVED. THE GIVEN ROWS OF THIS SEAT. 5 by the template 'for every input the law returns true; each argument reads behind the call as it read before'; 0 by the template 'total and deterministic' (their statements: YtlkcmegjbdibcaaDoorTotals.lean).
  GIVEN WITH THE SEED: the statements are not yours to turn. If you find one false, say at which input.
  Laid BY PROGRAM, IN A SANDBOX (cutbox-rows.mjs): the forced cells as the released guide's own fill.sh prints them over the translation 3688d5d995cd3d0b… (all of the seat's roots in one cut). By AI agents, Wed Nov 11 2026. No macro, syntax, notation, axiom, sorry.
-/
import Derived.Test.YtlkcmegjbdibcaaDoorChecked
import GoSem.PinnedTables
import GoSem.Claim
import GoSem.ClaimJoined
import GoSem.ClaimMapViews
import Derived.JoinedTies
import Derived.KernelRfl
namespace Go.Proofs.YtlkcmegjbdibcaaDoor
/- THE CELL 'sum', in the pinned program and in every row, IS THE sha256 OF THE DUMP (.gsa) THAT YtlkcmegjbdibcaaDoorProg.lean LOADS. Nothing in Lean hashes anything: it is a label: what it is worth is what the hold of that sum in a sandbox is worth. -/
noncomputable def Tryd.pinned : Pinned := { name := "ytlkcmegjbdibcaadoor", sum := "3688d5d995cd3d0bdab3c7373a145cc1806fdd7efdf8f371f44fd27a276f6383", checked := Tryd.checked }
namespace Rows
def none {H : Type} : Left H := { results := [], args := [] }

/- WHAT THE LISTED PACKAGE-LEVEL VARIABLES READ AS WHEN THE CALL BEGINS. Each datum BY PROGRAM (the guide's laid-datum.mjs) off the statement by which the dump's own 'gosem.cut.vars' lays the variable. In a bare row this is a premise. The card (YtlkcmegjbdibcaaDoorCards.lean) ties it to the program's text. -/
def laid_unicode_utf8_acceptRanges {H : Type} : DataW H := .agg [.agg [.lit (.int .u8 128), .lit (.int .u8 191)], .agg [.lit (.int .u8 160), .lit (.int .u8 191)], .agg [.lit (.int .u8 128), .lit (.int .u8 159)], .agg [.lit (.int .u8 144), .lit (.int .u8 191)], .agg [.lit (.int .u8 128), .lit (.int .u8 143)], .agg [.lit (.int .u8 0), .lit (.int .u8 0)], .agg [.lit (.int .u8 0), .lit (.int .u8 0)], .agg [.lit (.int .u8 0), .lit (.int .u8 0)], .agg [.lit (.int .u8 0), .lit (.int .u8 0)], .agg [.lit (.int .u8 0), .lit (.int .u8 0)], .agg [.lit (.int .u8 0), .lit (.int .u8 0)], .agg [.lit (.int .u8 0), .lit (.int .u8 0)], .agg [.lit (.int .u8 0), .lit (.int .u8 0)], .agg [.lit (.int .u8 0), .lit (.int .u8 0)], .agg [.lit (.int .u8 0), .lit (.int .u8 0)], .agg [.lit (.int .u8 0), .lit (.int .u8 0)]]
def laid_emend_pptok_signs {H : Type} : DataW H := .agg [.lit (.string [46, 46, 46]), .lit (.string [60, 60, 61]), .lit (.string [62, 62, 61]), .lit (.string [45, 62]), .lit (.string [43, 43]), .lit (.string [45, 45]), .lit (.string [60, 60]), .lit (.string [62, 62]), .lit (.string [60, 61]), .lit (.string [62, 61]), .lit (.string [61, 61]), .lit (.string [33, 61]), .lit (.string [38, 38]), .lit (.string [124, 124]), .lit (.string [42, 61]), .lit (.string [47, 61]), .lit (.string [37, 61]), .lit (.string [43, 61]), .lit (.string [45, 61]), .lit (.string [38, 61]), .lit (.string [94, 61]), .lit (.string [124, 61]), .lit (.string [35, 35]), .lit (.string [91]), .lit (.string [93]), .lit (.string [40]), .lit (.string [41]), .lit (.string [123]), .lit (.string [125]), .lit (.string [46]), .lit (.string [38]), .lit (.string [42]), .lit (.string [43]), .lit (.string [45]), .lit (.string [126]), .lit (.string [33]), .lit (.string [47]), .lit (.string [37]), .lit (.string [60]), .lit (.string [62]), .lit (.string [94]), .lit (.string [124]), .lit (.string [63]), .lit (.string [58]), .lit (.string [59]), .lit (.string [61]), .lit (.string [44]), .lit (.string [35])]
/-- One of Go's own tables, pinned by name: the form's constant. -/
def laid_unicode_utf8_first : DataW Unit := Go.Pinned.utf8First

/-- 'emendlaw07.GlueTexts': WHATEVER THE INPUT: true; the input reads as it did. -/
def glueTextsSpec : ChangeSpec := { name := "glueTexts", fn := fun _ => fun
  | [d] => { results := [.lit (.bool true)], args := [d] }
  | _ => none }
def glueTextsRow : OpenClaim := { program := "ytlkcmegjbdibcaadoor", sum := "3688d5d995cd3d0bdab3c7373a145cc1806fdd7efdf8f371f44fd27a276f6383", func := "emend/emendlaw07.GlueTexts", spec := "glueTexts", inPlace := ["internal/bytealg.CountString", "internal/bytealg.IndexByteString", "internal/bytealg.IndexString", "internal/abi.NoEscape", "internal/bytealg.MakeNoZero"], unfollowed := true, recurses := true, named := ["internal/bytealg.MaxLen", "emend/pptok.signs", "unicode/utf8.first", "unicode/utf8.acceptRanges"], apart := false, laid := [("unicode/utf8.acceptRanges", laid_unicode_utf8_acceptRanges), ("emend/pptok.signs", laid_emend_pptok_signs), ("unicode/utf8.first", laid_unicode_utf8_first)] }
def GlueTextsSaid : Prop := glueTextsRow.holds Tryd.pinned (OpenSpec.ofChange glueTextsSpec)

/-- ITS FALSE NEIGHBOUR: 'it returns false'. Refute it at one input. -/
def glueTextsWrong : ChangeSpec := { name := "glueTexts", fn := fun _ => fun
  | [d] => { results := [.lit (.bool false)], args := [d] }
  | _ => none }
def GlueTextsWrongFalsely : Prop := glueTextsRow.holds Tryd.pinned (OpenSpec.ofChange glueTextsWrong)

/-- 'emendlaw07.GluePastes': WHATEVER THE INPUT: true; the input reads as it did. -/
def gluePastesSpec : ChangeSpec := { name := "gluePastes", fn := fun _ => fun
  | [d1, d2] => { results := [.lit (.bool true)], args := [d1, d2] }
  | _ => none }
def gluePastesRow : OpenClaim := { program := "ytlkcmegjbdibcaadoor", sum := "3688d5d995cd3d0bdab3c7373a145cc1806fdd7efdf8f371f44fd27a276f6383", func := "emend/emendlaw07.GluePastes", spec := "gluePastes", inPlace := ["internal/bytealg.CountString", "internal/bytealg.IndexByteString", "internal/bytealg.IndexString", "internal/abi.NoEscape", "internal/bytealg.MakeNoZero"], unfollowed := true, recurses := true, named := ["internal/bytealg.MaxLen", "emend/pptok.signs", "unicode/utf8.first", "unicode/utf8.acceptRanges"], apart := false, laid := [("unicode/utf8.acceptRanges", laid_unicode_utf8_acceptRanges), ("emend/pptok.signs", laid_emend_pptok_signs), ("unicode/utf8.first", laid_unicode_utf8_first)] }
def GluePastesSaid : Prop := gluePastesRow.holds Tryd.pinned (OpenSpec.ofChange gluePastesSpec)

/-- ITS FALSE NEIGHBOUR: 'it returns false'. Refute it at one input. -/
def gluePastesWrong : ChangeSpec := { name := "gluePastes", fn := fun _ => fun
  | [d1, d2] => { results := [.lit (.bool false)], args := [d1, d2] }
  | _ => none }
def GluePastesWrongFalsely : Prop := gluePastesRow.holds Tryd.pinned (OpenSpec.ofChange gluePastesWrong)

/-- 'emendlaw07.GlueQuotes': WHATEVER THE INPUT: true; the input reads as it did. -/
def glueQuotesSpec : ChangeSpec := { name := "glueQuotes", fn := fun _ => fun
  | [d] => { results := [.lit (.bool true)], args := [d] }
  | _ => none }
def glueQuotesRow : OpenClaim := { program := "ytlkcmegjbdibcaadoor", sum := "3688d5d995cd3d0bdab3c7373a145cc1806fdd7efdf8f371f44fd27a276f6383", func := "emend/emendlaw07.GlueQuotes", spec := "glueQuotes", inPlace := ["internal/bytealg.CountString", "internal/bytealg.IndexByteString", "internal/bytealg.IndexString", "internal/abi.NoEscape", "internal/bytealg.MakeNoZero"], unfollowed := true, recurses := true, named := ["internal/bytealg.MaxLen", "emend/pptok.signs", "unicode/utf8.first", "unicode/utf8.acceptRanges"], apart := false, laid := [("unicode/utf8.acceptRanges", laid_unicode_utf8_acceptRanges), ("emend/pptok.signs", laid_emend_pptok_signs), ("unicode/utf8.first", laid_unicode_utf8_first)] }
def GlueQuotesSaid : Prop := glueQuotesRow.holds Tryd.pinned (OpenSpec.ofChange glueQuotesSpec)

/-- ITS FALSE NEIGHBOUR: 'it returns false'. Refute it at one input. -/
def glueQuotesWrong : ChangeSpec := { name := "glueQuotes", fn := fun _ => fun
  | [d] => { results := [.lit (.bool false)], args := [d] }
  | _ => none }
def GlueQuotesWrongFalsely : Prop := glueQuotesRow.holds Tryd.pinned (OpenSpec.ofChange glueQuotesWrong)

/-- 'emendlaw07.GlueBack': WHATEVER THE INPUT: true; the input reads as it did. -/
def glueBackSpec : ChangeSpec := { name := "glueBack", fn := fun _ => fun
  | [d] => { results := [.lit (.bool true)], args := [d] }
  | _ => none }
def glueBackRow : OpenClaim := { program := "ytlkcmegjbdibcaadoor", sum := "3688d5d995cd3d0bdab3c7373a145cc1806fdd7efdf8f371f44fd27a276f6383", func := "emend/emendlaw07.GlueBack", spec := "glueBack", inPlace := ["internal/bytealg.CountString", "internal/bytealg.IndexByteString", "internal/bytealg.IndexString", "internal/abi.NoEscape", "internal/bytealg.MakeNoZero"], unfollowed := true, recurses := true, named := ["internal/bytealg.MaxLen", "emend/pptok.signs", "unicode/utf8.first", "unicode/utf8.acceptRanges"], apart := false, laid := [("unicode/utf8.acceptRanges", laid_unicode_utf8_acceptRanges), ("emend/pptok.signs", laid_emend_pptok_signs), ("unicode/utf8.first", laid_unicode_utf8_first)] }
def GlueBackSaid : Prop := glueBackRow.holds Tryd.pinned (OpenSpec.ofChange glueBackSpec)

/-- ITS FALSE NEIGHBOUR: 'it returns false'. Refute it at one input. -/
def glueBackWrong : ChangeSpec := { name := "glueBack", fn := fun _ => fun
  | [d] => { results := [.lit (.bool false)], args := [d] }
  | _ => none }
def GlueBackWrongFalsely : Prop := glueBackRow.holds Tryd.pinned (OpenSpec.ofChange glueBackWrong)

/-- 'emendlaw07.GlueAlone': WHATEVER THE INPUT: true; the input reads as it did. -/
def glueAloneSpec : ChangeSpec := { name := "glueAlone", fn := fun _ => fun
  | [d1, d2, d3] => { results := [.lit (.bool true)], args := [d1, d2, d3] }
  | _ => none }
def glueAloneRow : OpenClaim := { program := "ytlkcmegjbdibcaadoor", sum := "3688d5d995cd3d0bdab3c7373a145cc1806fdd7efdf8f371f44fd27a276f6383", func := "emend/emendlaw07.GlueAlone", spec := "glueAlone", inPlace := ["internal/bytealg.CountString", "internal/bytealg.IndexByteString", "internal/bytealg.IndexString", "internal/abi.NoEscape", "internal/bytealg.MakeNoZero"], unfollowed := true, recurses := true, named := ["internal/bytealg.MaxLen", "emend/pptok.signs", "unicode/utf8.first", "unicode/utf8.acceptRanges"], apart := false, laid := [("unicode/utf8.acceptRanges", laid_unicode_utf8_acceptRanges), ("emend/pptok.signs", laid_emend_pptok_signs), ("unicode/utf8.first", laid_unicode_utf8_first)] }
def GlueAloneSaid : Prop := glueAloneRow.holds Tryd.pinned (OpenSpec.ofChange glueAloneSpec)

/-- ITS FALSE NEIGHBOUR: 'it returns false'. Refute it at one input. -/
def glueAloneWrong : ChangeSpec := { name := "glueAlone", fn := fun _ => fun
  | [d1, d2, d3] => { results := [.lit (.bool false)], args := [d1, d2, d3] }
  | _ => none }
def GlueAloneWrongFalsely : Prop := glueAloneRow.holds Tryd.pinned (OpenSpec.ofChange glueAloneWrong)

/- THE SECOND FORM. 'bulk': how many values and letters a reading holds, each counted each time it is reached (what is shared counts as often as it is met; a slice's spare places count too). A statement '..UptoSaid' is the law's where the arguments, and the package variables that the reading takes, are together of bulk at most 1048576: NARROWER than '..Said'. Prove '..Said' where nothing that the law and all that it calls make is longer than what came in: it says more and counts as full. Else prove '..UptoSaid'. A law counts once. -/
mutual
def uptoBulk {H : Type} : DataW H → Nat
  | .lit (.string bytes) => bytes.length + 1
  | .lit _ => 1
  | .nil => 1
  | .ptr d => uptoBulk d + 1
  | .slice elems spare => uptoBulkAll elems + uptoBulkAll spare + 1
  | .agg parts => uptoBulkAll parts + 1
  | .iface _ d => uptoBulk d + 1
  | .map entries => uptoBulkEntries entries + 1
  | .held _ => 1
def uptoBulkAll {H : Type} : List (DataW H) → Nat
  | [] => 0
  | d :: r => uptoBulk d + uptoBulkAll r
def uptoBulkEntries {H : Type} : List (Lit × DataW H) → Nat
  | [] => 0
  | x :: r => uptoBulkEntry x + uptoBulkEntries r
def uptoBulkEntry {H : Type} : Lit × DataW H → Nat
  | (.string bytes, d) => bytes.length + uptoBulk d + 1
  | (_, d) => uptoBulk d + 1
 end
def uptoSmall : (H : Type) → List (DataW H) → Bool := fun _ ds => decide (uptoBulkAll ds ≤ 1048576)
def OpenSpec.upto (s : _root_.Go.ChangeSpec) : _root_.Go.OpenSpec := { _root_.Go.OpenSpec.ofChange s with cond := some uptoSmall }

/-- 'emendlaw07.GlueTexts', WHERE WHAT IT READS IS OF BULK AT MOST 1048576: true; the input reads as it did. -/
def glueTextsUptoRow : OpenClaim := { program := "ytlkcmegjbdibcaadoor", sum := "3688d5d995cd3d0bdab3c7373a145cc1806fdd7efdf8f371f44fd27a276f6383", func := "emend/emendlaw07.GlueTexts", spec := "glueTexts", inPlace := ["internal/bytealg.CountString", "internal/bytealg.IndexByteString", "internal/bytealg.IndexString", "internal/abi.NoEscape", "internal/bytealg.MakeNoZero"], unfollowed := true, recurses := true, named := ["internal/bytealg.MaxLen", "emend/pptok.signs", "unicode/utf8.first", "unicode/utf8.acceptRanges"], apart := false, laid := [("unicode/utf8.acceptRanges", laid_unicode_utf8_acceptRanges), ("emend/pptok.signs", laid_emend_pptok_signs), ("unicode/utf8.first", laid_unicode_utf8_first)], narrowed := true }
def GlueTextsUptoSaid : Prop := glueTextsUptoRow.holds Tryd.pinned (OpenSpec.upto glueTextsSpec)

/-- 'emendlaw07.GluePastes', WHERE WHAT IT READS IS OF BULK AT MOST 1048576: true; the input reads as it did. -/
def gluePastesUptoRow : OpenClaim := { program := "ytlkcmegjbdibcaadoor", sum := "3688d5d995cd3d0bdab3c7373a145cc1806fdd7efdf8f371f44fd27a276f6383", func := "emend/emendlaw07.GluePastes", spec := "gluePastes", inPlace := ["internal/bytealg.CountString", "internal/bytealg.IndexByteString", "internal/bytealg.IndexString", "internal/abi.NoEscape", "internal/bytealg.MakeNoZero"], unfollowed := true, recurses := true, named := ["internal/bytealg.MaxLen", "emend/pptok.signs", "unicode/utf8.first", "unicode/utf8.acceptRanges"], apart := false, laid := [("unicode/utf8.acceptRanges", laid_unicode_utf8_acceptRanges), ("emend/pptok.signs", laid_emend_pptok_signs), ("unicode/utf8.first", laid_unicode_utf8_first)], narrowed := true }
def GluePastesUptoSaid : Prop := gluePastesUptoRow.holds Tryd.pinned (OpenSpec.upto gluePastesSpec)

/-- 'emendlaw07.GlueQuotes', WHERE WHAT IT READS IS OF BULK AT MOST 1048576: true; the input reads as it did. -/
def glueQuotesUptoRow : OpenClaim := { program := "ytlkcmegjbdibcaadoor", sum := "3688d5d995cd3d0bdab3c7373a145cc1806fdd7efdf8f371f44fd27a276f6383", func := "emend/emendlaw07.GlueQuotes", spec := "glueQuotes", inPlace := ["internal/bytealg.CountString", "internal/bytealg.IndexByteString", "internal/bytealg.IndexString", "internal/abi.NoEscape", "internal/bytealg.MakeNoZero"], unfollowed := true, recurses := true, named := ["internal/bytealg.MaxLen", "emend/pptok.signs", "unicode/utf8.first", "unicode/utf8.acceptRanges"], apart := false, laid := [("unicode/utf8.acceptRanges", laid_unicode_utf8_acceptRanges), ("emend/pptok.signs", laid_emend_pptok_signs), ("unicode/utf8.first", laid_unicode_utf8_first)], narrowed := true }
def GlueQuotesUptoSaid : Prop := glueQuotesUptoRow.holds Tryd.pinned (OpenSpec.upto glueQuotesSpec)

/-- 'emendlaw07.GlueBack', WHERE WHAT IT READS IS OF BULK AT MOST 1048576: true; the input reads as it did. -/
def glueBackUptoRow : OpenClaim := { program := "ytlkcmegjbdibcaadoor", sum := "3688d5d995cd3d0bdab3c7373a145cc1806fdd7efdf8f371f44fd27a276f6383", func := "emend/emendlaw07.GlueBack", spec := "glueBack", inPlace := ["internal/bytealg.CountString", "internal/bytealg.IndexByteString", "internal/bytealg.IndexString", "internal/abi.NoEscape", "internal/bytealg.MakeNoZero"], unfollowed := true, recurses := true, named := ["internal/bytealg.MaxLen", "emend/pptok.signs", "unicode/utf8.first", "unicode/utf8.acceptRanges"], apart := false, laid := [("unicode/utf8.acceptRanges", laid_unicode_utf8_acceptRanges), ("emend/pptok.signs", laid_emend_pptok_signs), ("unicode/utf8.first", laid_unicode_utf8_first)], narrowed := true }
def GlueBackUptoSaid : Prop := glueBackUptoRow.holds Tryd.pinned (OpenSpec.upto glueBackSpec)

/-- 'emendlaw07.GlueAlone', WHERE WHAT IT READS IS OF BULK AT MOST 1048576: true; the input reads as it did. -/
def glueAloneUptoRow : OpenClaim := { program := "ytlkcmegjbdibcaadoor", sum := "3688d5d995cd3d0bdab3c7373a145cc1806fdd7efdf8f371f44fd27a276f6383", func := "emend/emendlaw07.GlueAlone", spec := "glueAlone", inPlace := ["internal/bytealg.CountString", "internal/bytealg.IndexByteString", "internal/bytealg.IndexString", "internal/abi.NoEscape", "internal/bytealg.MakeNoZero"], unfollowed := true, recurses := true, named := ["internal/bytealg.MaxLen", "emend/pptok.signs", "unicode/utf8.first", "unicode/utf8.acceptRanges"], apart := false, laid := [("unicode/utf8.acceptRanges", laid_unicode_utf8_acceptRanges), ("emend/pptok.signs", laid_emend_pptok_signs), ("unicode/utf8.first", laid_unicode_utf8_first)], narrowed := true }
def GlueAloneUptoSaid : Prop := glueAloneUptoRow.holds Tryd.pinned (OpenSpec.upto glueAloneSpec)

end Rows
end Go.Proofs.YtlkcmegjbdibcaaDoor
