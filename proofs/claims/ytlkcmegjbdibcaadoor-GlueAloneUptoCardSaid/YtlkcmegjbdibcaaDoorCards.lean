/-
  DERIVED. GIVEN WITH THE SEED: THE CARDS: each row of YtlkcmegjbdibcaaDoorRows.lean that lists a variable, with what it lists TIED to the program's text (the seventh form; the later family's looks); each row that meets fmt, with fmt's text TOLD by the authors' own Lean function (tested against real Go, not proved from fmt's source: count such statements apart). THE CARD IS WHAT COUNTS. Prove the row's statement (the work); the ties are given (YtlkcmegjbdibcaaDoorTie.lean); close each card by the builder's one call (the guide's Derived/Test/ToyasCard.lean, 'card_holds'). Laid BY PROGRAM, IN A SANDBOX (cutbox-door.mjs). By AI agents, Wed Nov 11 2026. No macro, syntax, notation, axiom, sorry.
-/
import Derived.Test.YtlkcmegjbdibcaaDoorRows
import GoSem.ClaimSeven
namespace Go.Proofs.YtlkcmegjbdibcaaDoor
namespace Rows

/-- THE TIED CARD OF 'emendlaw07.GlueTexts'. -/
def glueTextsCard : Claim7 := { stood := { row := glueTextsRow, standIns := [], harness := (true, "b903df7195dc52ea2f164dbe653ea3ce17d3d2d08ef6b66b5e553c10261f080c"), looks := false }, kinds := [], alts := [], laidByText := true, laidKinds := [.data, .data, .pinned], laidTests := true, laidLooks := .later }
def GlueTextsCardSaid : Prop := Claim7.holds Tryd.pinned (.plain (OpenSpec.ofChange glueTextsSpec)) glueTextsCard

/-- THE TIED CARD OF 'emendlaw07.GluePastes'. -/
def gluePastesCard : Claim7 := { stood := { row := gluePastesRow, standIns := [], harness := (true, "b903df7195dc52ea2f164dbe653ea3ce17d3d2d08ef6b66b5e553c10261f080c"), looks := false }, kinds := [], alts := [], laidByText := true, laidKinds := [.data, .data, .pinned], laidTests := true, laidLooks := .later }
def GluePastesCardSaid : Prop := Claim7.holds Tryd.pinned (.plain (OpenSpec.ofChange gluePastesSpec)) gluePastesCard

/-- THE TIED CARD OF 'emendlaw07.GlueQuotes'. -/
def glueQuotesCard : Claim7 := { stood := { row := glueQuotesRow, standIns := [], harness := (true, "b903df7195dc52ea2f164dbe653ea3ce17d3d2d08ef6b66b5e553c10261f080c"), looks := false }, kinds := [], alts := [], laidByText := true, laidKinds := [.data, .data, .pinned], laidTests := true, laidLooks := .later }
def GlueQuotesCardSaid : Prop := Claim7.holds Tryd.pinned (.plain (OpenSpec.ofChange glueQuotesSpec)) glueQuotesCard

/-- THE TIED CARD OF 'emendlaw07.GlueBack'. -/
def glueBackCard : Claim7 := { stood := { row := glueBackRow, standIns := [], harness := (true, "b903df7195dc52ea2f164dbe653ea3ce17d3d2d08ef6b66b5e553c10261f080c"), looks := false }, kinds := [], alts := [], laidByText := true, laidKinds := [.data, .data, .pinned], laidTests := true, laidLooks := .later }
def GlueBackCardSaid : Prop := Claim7.holds Tryd.pinned (.plain (OpenSpec.ofChange glueBackSpec)) glueBackCard

/-- THE TIED CARD OF 'emendlaw07.GlueAlone'. -/
def glueAloneCard : Claim7 := { stood := { row := glueAloneRow, standIns := [], harness := (true, "b903df7195dc52ea2f164dbe653ea3ce17d3d2d08ef6b66b5e553c10261f080c"), looks := false }, kinds := [], alts := [], laidByText := true, laidKinds := [.data, .data, .pinned], laidTests := true, laidLooks := .later }
def GlueAloneCardSaid : Prop := Claim7.holds Tryd.pinned (.plain (OpenSpec.ofChange glueAloneSpec)) glueAloneCard

/-- THE SECOND FORM's CARD OF 'emendlaw07.GlueTexts'. -/
def glueTextsUptoCard : Claim7 := { stood := { row := glueTextsUptoRow, standIns := [], harness := (true, "b903df7195dc52ea2f164dbe653ea3ce17d3d2d08ef6b66b5e553c10261f080c"), looks := false }, kinds := [], alts := [], laidByText := true, laidKinds := [.data, .data, .pinned], laidTests := true, laidLooks := .later }
def GlueTextsUptoCardSaid : Prop := Claim7.holds Tryd.pinned (.plain (OpenSpec.upto glueTextsSpec)) glueTextsUptoCard

/-- THE SECOND FORM's CARD OF 'emendlaw07.GluePastes'. -/
def gluePastesUptoCard : Claim7 := { stood := { row := gluePastesUptoRow, standIns := [], harness := (true, "b903df7195dc52ea2f164dbe653ea3ce17d3d2d08ef6b66b5e553c10261f080c"), looks := false }, kinds := [], alts := [], laidByText := true, laidKinds := [.data, .data, .pinned], laidTests := true, laidLooks := .later }
def GluePastesUptoCardSaid : Prop := Claim7.holds Tryd.pinned (.plain (OpenSpec.upto gluePastesSpec)) gluePastesUptoCard

/-- THE SECOND FORM's CARD OF 'emendlaw07.GlueQuotes'. -/
def glueQuotesUptoCard : Claim7 := { stood := { row := glueQuotesUptoRow, standIns := [], harness := (true, "b903df7195dc52ea2f164dbe653ea3ce17d3d2d08ef6b66b5e553c10261f080c"), looks := false }, kinds := [], alts := [], laidByText := true, laidKinds := [.data, .data, .pinned], laidTests := true, laidLooks := .later }
def GlueQuotesUptoCardSaid : Prop := Claim7.holds Tryd.pinned (.plain (OpenSpec.upto glueQuotesSpec)) glueQuotesUptoCard

/-- THE SECOND FORM's CARD OF 'emendlaw07.GlueBack'. -/
def glueBackUptoCard : Claim7 := { stood := { row := glueBackUptoRow, standIns := [], harness := (true, "b903df7195dc52ea2f164dbe653ea3ce17d3d2d08ef6b66b5e553c10261f080c"), looks := false }, kinds := [], alts := [], laidByText := true, laidKinds := [.data, .data, .pinned], laidTests := true, laidLooks := .later }
def GlueBackUptoCardSaid : Prop := Claim7.holds Tryd.pinned (.plain (OpenSpec.upto glueBackSpec)) glueBackUptoCard

/-- THE SECOND FORM's CARD OF 'emendlaw07.GlueAlone'. -/
def glueAloneUptoCard : Claim7 := { stood := { row := glueAloneUptoRow, standIns := [], harness := (true, "b903df7195dc52ea2f164dbe653ea3ce17d3d2d08ef6b66b5e553c10261f080c"), looks := false }, kinds := [], alts := [], laidByText := true, laidKinds := [.data, .data, .pinned], laidTests := true, laidLooks := .later }
def GlueAloneUptoCardSaid : Prop := Claim7.holds Tryd.pinned (.plain (OpenSpec.upto glueAloneSpec)) glueAloneUptoCard
end Rows
end Go.Proofs.YtlkcmegjbdibcaaDoor
