/-
  DERIVED. GIVEN WITH THE SEED: THE CARDS: each row of YtfjbmenakcnadaaDoorRows.lean that lists a variable, with what it lists TIED to the program's text (the seventh form; the later family's looks); each row that meets fmt, with fmt's text TOLD by the authors' own Lean function (tested against real Go, not proved from fmt's source: count such statements apart). THE CARD IS WHAT COUNTS. Prove the row's statement (the work); the ties are given (YtfjbmenakcnadaaDoorTie.lean); close each card by the builder's one call (the guide's Derived/Test/ToyasCard.lean, 'card_holds'). Laid BY PROGRAM, IN A SANDBOX (cutbox-door.mjs). By AI agents, Wed Nov 11 2026. No macro, syntax, notation, axiom, sorry.
-/
import Derived.Test.YtfjbmenakcnadaaDoorRows
import GoSem.ClaimSeven
namespace Go.Proofs.YtfjbmenakcnadaaDoor
namespace Rows

/-- THE TIED CARD OF 'emendlaw06.MacroDefines'. -/
def macroDefinesCard : Claim7 := { stood := { row := macroDefinesRow, standIns := [], harness := (true, "38e568562ff24f67dcc7bab7036b70050af03a586de6f2e929961801ddeaef08"), looks := true }, kinds := [], alts := [], laidByText := true, laidKinds := [.data], laidTests := true, laidLooks := .later }
def MacroDefinesCardSaid : Prop := Claim7.holds Tryd.pinned (.plain (OpenSpec.ofChange macroDefinesSpec)) macroDefinesCard

/-- THE TIED CARD OF 'emendlaw06.MacroRaw'. -/
def macroRawCard : Claim7 := { stood := { row := macroRawRow, standIns := [], harness := (true, "38e568562ff24f67dcc7bab7036b70050af03a586de6f2e929961801ddeaef08"), looks := true }, kinds := [], alts := [], laidByText := true, laidKinds := [.data], laidTests := true, laidLooks := .later }
def MacroRawCardSaid : Prop := Claim7.holds Tryd.pinned (.plain (OpenSpec.ofChange macroRawSpec)) macroRawCard

/-- THE TIED CARD OF 'emendlaw06.MacroTells'. -/
def macroTellsCard : Claim7 := { stood := { row := macroTellsRow, standIns := [], harness := (true, "38e568562ff24f67dcc7bab7036b70050af03a586de6f2e929961801ddeaef08"), looks := true }, kinds := [], alts := [], laidByText := true, laidKinds := [.data], laidTests := true, laidLooks := .later }
def MacroTellsCardSaid : Prop := Claim7.holds Tryd.pinned (.plain (OpenSpec.ofChange macroTellsSpec)) macroTellsCard

/-- THE TIED CARD OF 'emendlaw06.MacroBack'. -/
def macroBackCard : Claim7 := { stood := { row := macroBackRow, standIns := [], harness := (true, "38e568562ff24f67dcc7bab7036b70050af03a586de6f2e929961801ddeaef08"), looks := true }, kinds := [], alts := [], laidByText := true, laidKinds := [.data], laidTests := true, laidLooks := .later }
def MacroBackCardSaid : Prop := Claim7.holds Tryd.pinned (.plain (OpenSpec.ofChange macroBackSpec)) macroBackCard

/-- THE TIED CARD OF 'emendlaw06.MacroSame'. -/
def macroSameCard : Claim7 := { stood := { row := macroSameRow, standIns := [], harness := (true, "38e568562ff24f67dcc7bab7036b70050af03a586de6f2e929961801ddeaef08"), looks := true }, kinds := [], alts := [], laidByText := true, laidKinds := [.data], laidTests := true, laidLooks := .later }
def MacroSameCardSaid : Prop := Claim7.holds Tryd.pinned (.plain (OpenSpec.ofChange macroSameSpec)) macroSameCard

/-- THE TIED CARD OF 'emendlaw06.MacroParams'. -/
def macroParamsCard : Claim7 := { stood := { row := macroParamsRow, standIns := [], harness := (true, "38e568562ff24f67dcc7bab7036b70050af03a586de6f2e929961801ddeaef08"), looks := true }, kinds := [], alts := [], laidByText := true, laidKinds := [.data], laidTests := true, laidLooks := .later }
def MacroParamsCardSaid : Prop := Claim7.holds Tryd.pinned (.plain (OpenSpec.ofChange macroParamsSpec)) macroParamsCard

/-- THE SECOND FORM's CARD OF 'emendlaw06.MacroDefines'. -/
def macroDefinesUptoCard : Claim7 := { stood := { row := macroDefinesUptoRow, standIns := [], harness := (true, "38e568562ff24f67dcc7bab7036b70050af03a586de6f2e929961801ddeaef08"), looks := true }, kinds := [], alts := [], laidByText := true, laidKinds := [.data], laidTests := true, laidLooks := .later }
def MacroDefinesUptoCardSaid : Prop := Claim7.holds Tryd.pinned (.plain (OpenSpec.upto macroDefinesSpec)) macroDefinesUptoCard

/-- THE SECOND FORM's CARD OF 'emendlaw06.MacroRaw'. -/
def macroRawUptoCard : Claim7 := { stood := { row := macroRawUptoRow, standIns := [], harness := (true, "38e568562ff24f67dcc7bab7036b70050af03a586de6f2e929961801ddeaef08"), looks := true }, kinds := [], alts := [], laidByText := true, laidKinds := [.data], laidTests := true, laidLooks := .later }
def MacroRawUptoCardSaid : Prop := Claim7.holds Tryd.pinned (.plain (OpenSpec.upto macroRawSpec)) macroRawUptoCard

/-- THE SECOND FORM's CARD OF 'emendlaw06.MacroTells'. -/
def macroTellsUptoCard : Claim7 := { stood := { row := macroTellsUptoRow, standIns := [], harness := (true, "38e568562ff24f67dcc7bab7036b70050af03a586de6f2e929961801ddeaef08"), looks := true }, kinds := [], alts := [], laidByText := true, laidKinds := [.data], laidTests := true, laidLooks := .later }
def MacroTellsUptoCardSaid : Prop := Claim7.holds Tryd.pinned (.plain (OpenSpec.upto macroTellsSpec)) macroTellsUptoCard

/-- THE SECOND FORM's CARD OF 'emendlaw06.MacroBack'. -/
def macroBackUptoCard : Claim7 := { stood := { row := macroBackUptoRow, standIns := [], harness := (true, "38e568562ff24f67dcc7bab7036b70050af03a586de6f2e929961801ddeaef08"), looks := true }, kinds := [], alts := [], laidByText := true, laidKinds := [.data], laidTests := true, laidLooks := .later }
def MacroBackUptoCardSaid : Prop := Claim7.holds Tryd.pinned (.plain (OpenSpec.upto macroBackSpec)) macroBackUptoCard

/-- THE SECOND FORM's CARD OF 'emendlaw06.MacroSame'. -/
def macroSameUptoCard : Claim7 := { stood := { row := macroSameUptoRow, standIns := [], harness := (true, "38e568562ff24f67dcc7bab7036b70050af03a586de6f2e929961801ddeaef08"), looks := true }, kinds := [], alts := [], laidByText := true, laidKinds := [.data], laidTests := true, laidLooks := .later }
def MacroSameUptoCardSaid : Prop := Claim7.holds Tryd.pinned (.plain (OpenSpec.upto macroSameSpec)) macroSameUptoCard

/-- THE SECOND FORM's CARD OF 'emendlaw06.MacroParams'. -/
def macroParamsUptoCard : Claim7 := { stood := { row := macroParamsUptoRow, standIns := [], harness := (true, "38e568562ff24f67dcc7bab7036b70050af03a586de6f2e929961801ddeaef08"), looks := true }, kinds := [], alts := [], laidByText := true, laidKinds := [.data], laidTests := true, laidLooks := .later }
def MacroParamsUptoCardSaid : Prop := Claim7.holds Tryd.pinned (.plain (OpenSpec.upto macroParamsSpec)) macroParamsUptoCard
end Rows
end Go.Proofs.YtfjbmenakcnadaaDoor
