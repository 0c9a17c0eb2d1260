/-
  DERIVED. GIVEN WITH THE SEED: THE CARDS: each row of YtflmbmcfoigioaaDoorRows.lean that lists a variable, with what it lists TIED to the program's text (the seventh form; the later family's looks); each row that meets fmt, with fmt's text TOLD by the authors' own Lean function (tested against real Go, not proved from fmt's source: count such statements apart). THE CARD IS WHAT COUNTS. Prove the row's statement (the work); the ties are given (YtflmbmcfoigioaaDoorTie.lean); close each card by the builder's one call (the guide's Derived/Test/ToyasCard.lean, 'card_holds'). Laid BY PROGRAM, IN A SANDBOX (cutbox-door.mjs). By AI agents, Wed Nov 11 2026. No macro, syntax, notation, axiom, sorry.
-/
import Derived.Test.YtflmbmcfoigioaaDoorRows
import GoSem.ClaimSeven
namespace Go.Proofs.YtflmbmcfoigioaaDoor
namespace Rows

/-- THE TIED CARD OF 'emendlaw03.PptokPlays'. -/
def pptokPlaysCard : Claim7 := { stood := { row := pptokPlaysRow, standIns := [], harness := (true, "0bbf8d7096f133d1fc8a9c548834debb3b3250ce7e99f15e6ea4c9e2a48afd2c"), looks := false }, kinds := [], alts := [], laidByText := true, laidKinds := [.data], laidTests := true, laidLooks := .later }
def PptokPlaysCardSaid : Prop := Claim7.holds Tryd.pinned (.plain (OpenSpec.ofChange pptokPlaysSpec)) pptokPlaysCard

/-- THE TIED CARD OF 'emendlaw03.PptokOne'. -/
def pptokOneCard : Claim7 := { stood := { row := pptokOneRow, standIns := [], harness := (true, "0bbf8d7096f133d1fc8a9c548834debb3b3250ce7e99f15e6ea4c9e2a48afd2c"), looks := false }, kinds := [], alts := [], laidByText := true, laidKinds := [.data], laidTests := true, laidLooks := .later }
def PptokOneCardSaid : Prop := Claim7.holds Tryd.pinned (.plain (OpenSpec.ofChange pptokOneSpec)) pptokOneCard

/-- THE TIED CARD OF 'emendlaw03.PptokCovers'. -/
def pptokCoversCard : Claim7 := { stood := { row := pptokCoversRow, standIns := [], harness := (true, "0bbf8d7096f133d1fc8a9c548834debb3b3250ce7e99f15e6ea4c9e2a48afd2c"), looks := false }, kinds := [], alts := [], laidByText := true, laidKinds := [.data], laidTests := true, laidLooks := .later }
def PptokCoversCardSaid : Prop := Claim7.holds Tryd.pinned (.plain (OpenSpec.ofChange pptokCoversSpec)) pptokCoversCard

/-- THE TIED CARD OF 'emendlaw03.PptokBack'. -/
def pptokBackCard : Claim7 := { stood := { row := pptokBackRow, standIns := [], harness := (true, "0bbf8d7096f133d1fc8a9c548834debb3b3250ce7e99f15e6ea4c9e2a48afd2c"), looks := false }, kinds := [], alts := [], laidByText := true, laidKinds := [.data], laidTests := true, laidLooks := .later }
def PptokBackCardSaid : Prop := Claim7.holds Tryd.pinned (.plain (OpenSpec.ofChange pptokBackSpec)) pptokBackCard

/-- THE TIED CARD OF 'emendlaw03.PptokPairs'. -/
def pptokPairsCard : Claim7 := { stood := { row := pptokPairsRow, standIns := [], harness := (true, "0bbf8d7096f133d1fc8a9c548834debb3b3250ce7e99f15e6ea4c9e2a48afd2c"), looks := false }, kinds := [], alts := [], laidByText := true, laidKinds := [.data], laidTests := true, laidLooks := .later }
def PptokPairsCardSaid : Prop := Claim7.holds Tryd.pinned (.plain (OpenSpec.ofChange pptokPairsSpec)) pptokPairsCard

/-- THE TIED CARD OF 'emendlaw03.PptokLines'. -/
def pptokLinesCard : Claim7 := { stood := { row := pptokLinesRow, standIns := [], harness := (true, "0bbf8d7096f133d1fc8a9c548834debb3b3250ce7e99f15e6ea4c9e2a48afd2c"), looks := false }, kinds := [], alts := [], laidByText := true, laidKinds := [.data], laidTests := true, laidLooks := .later }
def PptokLinesCardSaid : Prop := Claim7.holds Tryd.pinned (.plain (OpenSpec.ofChange pptokLinesSpec)) pptokLinesCard

/-- THE SECOND FORM's CARD OF 'emendlaw03.PptokPlays'. -/
def pptokPlaysUptoCard : Claim7 := { stood := { row := pptokPlaysUptoRow, standIns := [], harness := (true, "0bbf8d7096f133d1fc8a9c548834debb3b3250ce7e99f15e6ea4c9e2a48afd2c"), looks := false }, kinds := [], alts := [], laidByText := true, laidKinds := [.data], laidTests := true, laidLooks := .later }
def PptokPlaysUptoCardSaid : Prop := Claim7.holds Tryd.pinned (.plain (OpenSpec.upto pptokPlaysSpec)) pptokPlaysUptoCard

/-- THE SECOND FORM's CARD OF 'emendlaw03.PptokOne'. -/
def pptokOneUptoCard : Claim7 := { stood := { row := pptokOneUptoRow, standIns := [], harness := (true, "0bbf8d7096f133d1fc8a9c548834debb3b3250ce7e99f15e6ea4c9e2a48afd2c"), looks := false }, kinds := [], alts := [], laidByText := true, laidKinds := [.data], laidTests := true, laidLooks := .later }
def PptokOneUptoCardSaid : Prop := Claim7.holds Tryd.pinned (.plain (OpenSpec.upto pptokOneSpec)) pptokOneUptoCard

/-- THE SECOND FORM's CARD OF 'emendlaw03.PptokCovers'. -/
def pptokCoversUptoCard : Claim7 := { stood := { row := pptokCoversUptoRow, standIns := [], harness := (true, "0bbf8d7096f133d1fc8a9c548834debb3b3250ce7e99f15e6ea4c9e2a48afd2c"), looks := false }, kinds := [], alts := [], laidByText := true, laidKinds := [.data], laidTests := true, laidLooks := .later }
def PptokCoversUptoCardSaid : Prop := Claim7.holds Tryd.pinned (.plain (OpenSpec.upto pptokCoversSpec)) pptokCoversUptoCard

/-- THE SECOND FORM's CARD OF 'emendlaw03.PptokBack'. -/
def pptokBackUptoCard : Claim7 := { stood := { row := pptokBackUptoRow, standIns := [], harness := (true, "0bbf8d7096f133d1fc8a9c548834debb3b3250ce7e99f15e6ea4c9e2a48afd2c"), looks := false }, kinds := [], alts := [], laidByText := true, laidKinds := [.data], laidTests := true, laidLooks := .later }
def PptokBackUptoCardSaid : Prop := Claim7.holds Tryd.pinned (.plain (OpenSpec.upto pptokBackSpec)) pptokBackUptoCard

/-- THE SECOND FORM's CARD OF 'emendlaw03.PptokPairs'. -/
def pptokPairsUptoCard : Claim7 := { stood := { row := pptokPairsUptoRow, standIns := [], harness := (true, "0bbf8d7096f133d1fc8a9c548834debb3b3250ce7e99f15e6ea4c9e2a48afd2c"), looks := false }, kinds := [], alts := [], laidByText := true, laidKinds := [.data], laidTests := true, laidLooks := .later }
def PptokPairsUptoCardSaid : Prop := Claim7.holds Tryd.pinned (.plain (OpenSpec.upto pptokPairsSpec)) pptokPairsUptoCard

/-- THE SECOND FORM's CARD OF 'emendlaw03.PptokLines'. -/
def pptokLinesUptoCard : Claim7 := { stood := { row := pptokLinesUptoRow, standIns := [], harness := (true, "0bbf8d7096f133d1fc8a9c548834debb3b3250ce7e99f15e6ea4c9e2a48afd2c"), looks := false }, kinds := [], alts := [], laidByText := true, laidKinds := [.data], laidTests := true, laidLooks := .later }
def PptokLinesUptoCardSaid : Prop := Claim7.holds Tryd.pinned (.plain (OpenSpec.upto pptokLinesSpec)) pptokLinesUptoCard
end Rows
end Go.Proofs.YtflmbmcfoigioaaDoor
