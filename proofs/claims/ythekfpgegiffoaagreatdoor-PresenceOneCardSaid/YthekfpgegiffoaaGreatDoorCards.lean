/-
  DERIVED. GIVEN WITH THE SEED: THE CARDS: each row of YthekfpgegiffoaaGreatDoorRows.lean that lists a variable, with what it lists TIED to the program's text (the seventh form; the later family's looks); each row that meets fmt, with fmt's text TOLD by the authors' own Lean function (tested against real Go, not proved from fmt's source: count such statements apart). THE CARD IS WHAT COUNTS. Prove the row's statement (the work); the ties are given (YthekfpgegiffoaaGreatDoorTie.lean); close each card by the builder's one call (the guide's Derived/Test/ToyasCard.lean, 'card_holds'). Laid BY PROGRAM, IN A SANDBOX (cutbox-door.mjs). By AI agents, Wed Nov 11 2026. No macro, syntax, notation, axiom, sorry.
-/
import Derived.Test.YthekfpgegiffoaaGreatDoorRows
import GoSem.ClaimSeven
namespace Go.Proofs.YthekfpgegiffoaaGreatDoor
namespace Rows

/-- THE TIED CARD OF 'emendlaw12.PresenceLines'. -/
def presenceLinesCard : Claim7 := { stood := { row := presenceLinesRow, standIns := [], harness := (true, "6576a81339863aa0fe626058e1aed0e5988521277cbdfa86bbc9f886c3f5d5cc"), looks := true }, kinds := [], alts := [], laidByText := true, laidKinds := [.data, .data, .data, .data, .sentinel, .sentinel, .data, .data, .pinned], laidTests := true, laidLooks := .later }
def PresenceLinesCardSaid : Prop := Claim7.holds Tryz.pinned (.plain (OpenSpec.ofChange presenceLinesSpec)) presenceLinesCard

/-- THE TIED CARD OF 'emendlaw12.PresenceConds'. -/
def presenceCondsCard : Claim7 := { stood := { row := presenceCondsRow, standIns := [], harness := (true, "6576a81339863aa0fe626058e1aed0e5988521277cbdfa86bbc9f886c3f5d5cc"), looks := true }, kinds := [], alts := [], laidByText := true, laidKinds := [.data, .data, .data, .data, .sentinel, .sentinel, .data, .data, .pinned], laidTests := true, laidLooks := .later }
def PresenceCondsCardSaid : Prop := Claim7.holds Tryz.pinned (.plain (OpenSpec.ofChange presenceCondsSpec)) presenceCondsCard

/-- THE TIED CARD OF 'emendlaw12.PresenceOne'. -/
def presenceOneCard : Claim7 := { stood := { row := presenceOneRow, standIns := [], harness := (true, "6576a81339863aa0fe626058e1aed0e5988521277cbdfa86bbc9f886c3f5d5cc"), looks := true }, kinds := [], alts := [], laidByText := true, laidKinds := [.data, .data, .data, .data, .sentinel, .sentinel, .data, .data, .pinned], laidTests := true, laidLooks := .later }
def PresenceOneCardSaid : Prop := Claim7.holds Tryz.pinned (.plain (OpenSpec.ofChange presenceOneSpec)) presenceOneCard

/-- THE TIED CARD OF 'emendlaw12.PresenceUnit'. -/
def presenceUnitCard : Claim7 := { stood := { row := presenceUnitRow, standIns := [], harness := (true, "6576a81339863aa0fe626058e1aed0e5988521277cbdfa86bbc9f886c3f5d5cc"), looks := true }, kinds := [], alts := [], laidByText := true, laidKinds := [.data, .data, .data, .data, .handle, .sentinel, .sentinel, .data, .data, .pinned], laidTests := true, laidLooks := .later }
def PresenceUnitCardSaid : Prop := Claim7.holds Tryz.pinned (.plain (OpenSpec.ofChange presenceUnitSpec)) presenceUnitCard

/-- THE TIED CARD OF 'emendlaw12.PresenceBoth'. -/
def presenceBothCard : Claim7 := { stood := { row := presenceBothRow, standIns := [], harness := (true, "6576a81339863aa0fe626058e1aed0e5988521277cbdfa86bbc9f886c3f5d5cc"), looks := true }, kinds := [], alts := [], laidByText := true, laidKinds := [.data, .data, .data, .data, .sentinel, .sentinel, .data, .data, .pinned], laidTests := true, laidLooks := .later }
def PresenceBothCardSaid : Prop := Claim7.holds Tryz.pinned (.plain (OpenSpec.ofChange presenceBothSpec)) presenceBothCard

/-- THE SECOND FORM's CARD OF 'emendlaw12.PresenceLines'. -/
def presenceLinesUptoCard : Claim7 := { stood := { row := presenceLinesUptoRow, standIns := [], harness := (true, "6576a81339863aa0fe626058e1aed0e5988521277cbdfa86bbc9f886c3f5d5cc"), looks := true }, kinds := [], alts := [], laidByText := true, laidKinds := [.data, .data, .data, .data, .sentinel, .sentinel, .data, .data, .pinned], laidTests := true, laidLooks := .later }
def PresenceLinesUptoCardSaid : Prop := Claim7.holds Tryz.pinned (.plain (OpenSpec.upto presenceLinesSpec)) presenceLinesUptoCard

/-- THE SECOND FORM's CARD OF 'emendlaw12.PresenceConds'. -/
def presenceCondsUptoCard : Claim7 := { stood := { row := presenceCondsUptoRow, standIns := [], harness := (true, "6576a81339863aa0fe626058e1aed0e5988521277cbdfa86bbc9f886c3f5d5cc"), looks := true }, kinds := [], alts := [], laidByText := true, laidKinds := [.data, .data, .data, .data, .sentinel, .sentinel, .data, .data, .pinned], laidTests := true, laidLooks := .later }
def PresenceCondsUptoCardSaid : Prop := Claim7.holds Tryz.pinned (.plain (OpenSpec.upto presenceCondsSpec)) presenceCondsUptoCard

/-- THE SECOND FORM's CARD OF 'emendlaw12.PresenceOne'. -/
def presenceOneUptoCard : Claim7 := { stood := { row := presenceOneUptoRow, standIns := [], harness := (true, "6576a81339863aa0fe626058e1aed0e5988521277cbdfa86bbc9f886c3f5d5cc"), looks := true }, kinds := [], alts := [], laidByText := true, laidKinds := [.data, .data, .data, .data, .sentinel, .sentinel, .data, .data, .pinned], laidTests := true, laidLooks := .later }
def PresenceOneUptoCardSaid : Prop := Claim7.holds Tryz.pinned (.plain (OpenSpec.upto presenceOneSpec)) presenceOneUptoCard

/-- THE SECOND FORM's CARD OF 'emendlaw12.PresenceUnit'. -/
def presenceUnitUptoCard : Claim7 := { stood := { row := presenceUnitUptoRow, standIns := [], harness := (true, "6576a81339863aa0fe626058e1aed0e5988521277cbdfa86bbc9f886c3f5d5cc"), looks := true }, kinds := [], alts := [], laidByText := true, laidKinds := [.data, .data, .data, .data, .handle, .sentinel, .sentinel, .data, .data, .pinned], laidTests := true, laidLooks := .later }
def PresenceUnitUptoCardSaid : Prop := Claim7.holds Tryz.pinned (.plain (OpenSpec.upto presenceUnitSpec)) presenceUnitUptoCard

/-- THE SECOND FORM's CARD OF 'emendlaw12.PresenceBoth'. -/
def presenceBothUptoCard : Claim7 := { stood := { row := presenceBothUptoRow, standIns := [], harness := (true, "6576a81339863aa0fe626058e1aed0e5988521277cbdfa86bbc9f886c3f5d5cc"), looks := true }, kinds := [], alts := [], laidByText := true, laidKinds := [.data, .data, .data, .data, .sentinel, .sentinel, .data, .data, .pinned], laidTests := true, laidLooks := .later }
def PresenceBothUptoCardSaid : Prop := Claim7.holds Tryz.pinned (.plain (OpenSpec.upto presenceBothSpec)) presenceBothUptoCard
end Rows
end Go.Proofs.YthekfpgegiffoaaGreatDoor
