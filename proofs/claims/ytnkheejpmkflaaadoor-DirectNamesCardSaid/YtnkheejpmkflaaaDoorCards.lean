/-
  DERIVED. GIVEN WITH THE SEED: THE CARDS: each row of YtnkheejpmkflaaaDoorRows.lean that lists a variable, with what it lists TIED to the program's text (the seventh form; the later family's looks); each row that meets fmt, with fmt's text TOLD by the authors' own Lean function (tested against real Go, not proved from fmt's source: count such statements apart). THE CARD IS WHAT COUNTS. Prove the row's statement (the work); the ties are given (YtnkheejpmkflaaaDoorTie.lean); close each card by the builder's one call (the guide's Derived/Test/ToyasCard.lean, 'card_holds'). Laid BY PROGRAM, IN A SANDBOX (cutbox-door.mjs). By AI agents, Wed Nov 11 2026. No macro, syntax, notation, axiom, sorry.
-/
import Derived.Test.YtnkheejpmkflaaaDoorRows
import GoSem.ClaimSeven
namespace Go.Proofs.YtnkheejpmkflaaaDoor
namespace Rows

/-- THE TIED CARD OF 'emendlaw04.DirectPlays'. -/
def directPlaysCard : Claim7 := { stood := { row := directPlaysRow, standIns := [], harness := (true, "0d5dc497420c8db5b0b5edf3d572ca89c572aa32489d51126d3cd4e91b80bced"), looks := false }, kinds := [], alts := [], laidByText := true, laidKinds := [.data, .data], laidTests := true, laidLooks := .later }
def DirectPlaysCardSaid : Prop := Claim7.holds Tryd.pinned (.plain (OpenSpec.ofChange directPlaysSpec)) directPlaysCard

/-- THE TIED CARD OF 'emendlaw04.DirectRaw'. -/
def directRawCard : Claim7 := { stood := { row := directRawRow, standIns := [], harness := (true, "0d5dc497420c8db5b0b5edf3d572ca89c572aa32489d51126d3cd4e91b80bced"), looks := false }, kinds := [], alts := [], laidByText := true, laidKinds := [.data, .data], laidTests := true, laidLooks := .later }
def DirectRawCardSaid : Prop := Claim7.holds Tryd.pinned (.plain (OpenSpec.ofChange directRawSpec)) directRawCard

/-- THE TIED CARD OF 'emendlaw04.DirectWords'. -/
def directWordsCard : Claim7 := { stood := { row := directWordsRow, standIns := [], harness := (true, "0d5dc497420c8db5b0b5edf3d572ca89c572aa32489d51126d3cd4e91b80bced"), looks := false }, kinds := [], alts := [], laidByText := true, laidKinds := [.data, .data], laidTests := true, laidLooks := .later }
def DirectWordsCardSaid : Prop := Claim7.holds Tryd.pinned (.plain (OpenSpec.ofChange directWordsSpec)) directWordsCard

/-- THE TIED CARD OF 'emendlaw04.DirectTargets'. -/
def directTargetsCard : Claim7 := { stood := { row := directTargetsRow, standIns := [], harness := (true, "0d5dc497420c8db5b0b5edf3d572ca89c572aa32489d51126d3cd4e91b80bced"), looks := false }, kinds := [], alts := [], laidByText := true, laidKinds := [.data, .data], laidTests := true, laidLooks := .later }
def DirectTargetsCardSaid : Prop := Claim7.holds Tryd.pinned (.plain (OpenSpec.ofChange directTargetsSpec)) directTargetsCard

/-- THE TIED CARD OF 'emendlaw04.DirectCovers'. -/
def directCoversCard : Claim7 := { stood := { row := directCoversRow, standIns := [], harness := (true, "0d5dc497420c8db5b0b5edf3d572ca89c572aa32489d51126d3cd4e91b80bced"), looks := false }, kinds := [], alts := [], laidByText := true, laidKinds := [.data, .data], laidTests := true, laidLooks := .later }
def DirectCoversCardSaid : Prop := Claim7.holds Tryd.pinned (.plain (OpenSpec.ofChange directCoversSpec)) directCoversCard

/-- THE TIED CARD OF 'emendlaw04.DirectNames'. -/
def directNamesCard : Claim7 := { stood := { row := directNamesRow, standIns := [], harness := (true, "0d5dc497420c8db5b0b5edf3d572ca89c572aa32489d51126d3cd4e91b80bced"), looks := false }, kinds := [], alts := [], laidByText := true, laidKinds := [.data, .data], laidTests := true, laidLooks := .later }
def DirectNamesCardSaid : Prop := Claim7.holds Tryd.pinned (.plain (OpenSpec.ofChange directNamesSpec)) directNamesCard

/-- THE SECOND FORM's CARD OF 'emendlaw04.DirectPlays'. -/
def directPlaysUptoCard : Claim7 := { stood := { row := directPlaysUptoRow, standIns := [], harness := (true, "0d5dc497420c8db5b0b5edf3d572ca89c572aa32489d51126d3cd4e91b80bced"), looks := false }, kinds := [], alts := [], laidByText := true, laidKinds := [.data, .data], laidTests := true, laidLooks := .later }
def DirectPlaysUptoCardSaid : Prop := Claim7.holds Tryd.pinned (.plain (OpenSpec.upto directPlaysSpec)) directPlaysUptoCard

/-- THE SECOND FORM's CARD OF 'emendlaw04.DirectRaw'. -/
def directRawUptoCard : Claim7 := { stood := { row := directRawUptoRow, standIns := [], harness := (true, "0d5dc497420c8db5b0b5edf3d572ca89c572aa32489d51126d3cd4e91b80bced"), looks := false }, kinds := [], alts := [], laidByText := true, laidKinds := [.data, .data], laidTests := true, laidLooks := .later }
def DirectRawUptoCardSaid : Prop := Claim7.holds Tryd.pinned (.plain (OpenSpec.upto directRawSpec)) directRawUptoCard

/-- THE SECOND FORM's CARD OF 'emendlaw04.DirectWords'. -/
def directWordsUptoCard : Claim7 := { stood := { row := directWordsUptoRow, standIns := [], harness := (true, "0d5dc497420c8db5b0b5edf3d572ca89c572aa32489d51126d3cd4e91b80bced"), looks := false }, kinds := [], alts := [], laidByText := true, laidKinds := [.data, .data], laidTests := true, laidLooks := .later }
def DirectWordsUptoCardSaid : Prop := Claim7.holds Tryd.pinned (.plain (OpenSpec.upto directWordsSpec)) directWordsUptoCard

/-- THE SECOND FORM's CARD OF 'emendlaw04.DirectTargets'. -/
def directTargetsUptoCard : Claim7 := { stood := { row := directTargetsUptoRow, standIns := [], harness := (true, "0d5dc497420c8db5b0b5edf3d572ca89c572aa32489d51126d3cd4e91b80bced"), looks := false }, kinds := [], alts := [], laidByText := true, laidKinds := [.data, .data], laidTests := true, laidLooks := .later }
def DirectTargetsUptoCardSaid : Prop := Claim7.holds Tryd.pinned (.plain (OpenSpec.upto directTargetsSpec)) directTargetsUptoCard

/-- THE SECOND FORM's CARD OF 'emendlaw04.DirectCovers'. -/
def directCoversUptoCard : Claim7 := { stood := { row := directCoversUptoRow, standIns := [], harness := (true, "0d5dc497420c8db5b0b5edf3d572ca89c572aa32489d51126d3cd4e91b80bced"), looks := false }, kinds := [], alts := [], laidByText := true, laidKinds := [.data, .data], laidTests := true, laidLooks := .later }
def DirectCoversUptoCardSaid : Prop := Claim7.holds Tryd.pinned (.plain (OpenSpec.upto directCoversSpec)) directCoversUptoCard

/-- THE SECOND FORM's CARD OF 'emendlaw04.DirectNames'. -/
def directNamesUptoCard : Claim7 := { stood := { row := directNamesUptoRow, standIns := [], harness := (true, "0d5dc497420c8db5b0b5edf3d572ca89c572aa32489d51126d3cd4e91b80bced"), looks := false }, kinds := [], alts := [], laidByText := true, laidKinds := [.data, .data], laidTests := true, laidLooks := .later }
def DirectNamesUptoCardSaid : Prop := Claim7.holds Tryd.pinned (.plain (OpenSpec.upto directNamesSpec)) directNamesUptoCard
end Rows
end Go.Proofs.YtnkheejpmkflaaaDoor
