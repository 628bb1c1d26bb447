/-
  DERIVED. GIVEN WITH THE SEED: THE CARDS: each row of YtmipbiligijcpaaGreatDoorRows.lean that lists a variable, with what it lists TIED to the program's text (the seventh form; the later family's looks); each row that meets fmt, with fmt's text TOLD by the authors' own Lean function (tested against real Go, not proved from fmt's source: count such statements apart). THE CARD IS WHAT COUNTS. Prove the row's statement (the work); the ties are given (YtmipbiligijcpaaGreatDoorTie.lean); close each card by the builder's one call (the guide's Derived/Test/ToyasCard.lean, 'card_holds'). Laid BY PROGRAM, IN A SANDBOX (cutbox-door.mjs). By AI agents, Wed Nov 11 2026. No macro, syntax, notation, axiom, sorry.
-/
import Derived.Test.YtmipbiligijcpaaGreatDoorRows
import GoSem.ClaimSeven
namespace Go.Proofs.YtmipbiligijcpaaGreatDoor
namespace Rows

/-- THE TIED CARD OF 'warrantlaw.Prints'. -/
def printsCard : Claim7 := { stood := { row := printsRow, standIns := [], harness := (true, "27661e64ba78e7516f3a2896e4b8f3f5493f1069442e327e641ed9008192e67a"), looks := true }, kinds := [], alts := [], laidByText := true, laidKinds := [.data, .data, .data, .data, .sentinel, .sentinel, .pinned], laidTests := true, laidLooks := .later }
def PrintsCardSaid : Prop := Claim7.holds Tryz.pinned (.plain (OpenSpec.ofChange printsSpec)) printsCard

/-- THE TIED CARD OF 'warrantlaw.Runs'. -/
def runsCard : Claim7 := { stood := { row := runsRow, standIns := [], harness := (true, "27661e64ba78e7516f3a2896e4b8f3f5493f1069442e327e641ed9008192e67a"), looks := true }, kinds := [], alts := [], laidByText := true, laidKinds := [.data, .data, .data, .data, .sentinel, .sentinel, .pinned], laidTests := true, laidLooks := .later }
def RunsCardSaid : Prop := Claim7.holds Tryz.pinned (.plain (OpenSpec.ofChange runsSpec)) runsCard

/-- THE TIED CARD OF 'warrantlaw.Checks'. -/
def checksCard : Claim7 := { stood := { row := checksRow, standIns := [], harness := (true, "27661e64ba78e7516f3a2896e4b8f3f5493f1069442e327e641ed9008192e67a"), looks := true }, kinds := [], alts := [], laidByText := true, laidKinds := [.data, .data, .data, .data, .sentinel, .sentinel, .pinned], laidTests := true, laidLooks := .later }
def ChecksCardSaid : Prop := Claim7.holds Tryz.pinned (.plain (OpenSpec.ofChange checksSpec)) checksCard

/-- THE TIED CARD OF 'warrantlaw.Analyses'. -/
def analysesCard : Claim7 := { stood := { row := analysesRow, standIns := [], harness := (true, "27661e64ba78e7516f3a2896e4b8f3f5493f1069442e327e641ed9008192e67a"), looks := true }, kinds := [], alts := [], laidByText := true, laidKinds := [.data, .data, .data, .data, .sentinel, .sentinel, .pinned], laidTests := true, laidLooks := .later }
def AnalysesCardSaid : Prop := Claim7.holds Tryz.pinned (.plain (OpenSpec.ofChange analysesSpec)) analysesCard

/-- THE TIED CARD OF 'warrantkeep.Taken'. -/
def takenCard : Claim7 := { stood := { row := takenRow, standIns := [], harness := (true, "27661e64ba78e7516f3a2896e4b8f3f5493f1069442e327e641ed9008192e67a"), looks := true }, kinds := [], alts := [], laidByText := true, laidKinds := [.data, .data, .data, .data, .sentinel, .sentinel, .pinned], laidTests := true, laidLooks := .later }
def TakenCardSaid : Prop := Claim7.holds Tryz.pinned (.plain (OpenSpec.ofChange takenSpec)) takenCard

/-- THE TIED CARD OF 'warrantkeep.Held'. -/
def heldCard : Claim7 := { stood := { row := heldRow, standIns := [], harness := (true, "27661e64ba78e7516f3a2896e4b8f3f5493f1069442e327e641ed9008192e67a"), looks := true }, kinds := [], alts := [], laidByText := true, laidKinds := [.data, .data, .data, .data, .sentinel, .sentinel, .pinned], laidTests := true, laidLooks := .later }
def HeldCardSaid : Prop := Claim7.holds Tryz.pinned (.plain (OpenSpec.ofChange heldSpec)) heldCard

/-- THE SECOND FORM's CARD OF 'warrantlaw.Prints'. -/
def printsUptoCard : Claim7 := { stood := { row := printsUptoRow, standIns := [], harness := (true, "27661e64ba78e7516f3a2896e4b8f3f5493f1069442e327e641ed9008192e67a"), looks := true }, kinds := [], alts := [], laidByText := true, laidKinds := [.data, .data, .data, .data, .sentinel, .sentinel, .pinned], laidTests := true, laidLooks := .later }
def PrintsUptoCardSaid : Prop := Claim7.holds Tryz.pinned (.plain (OpenSpec.upto printsSpec)) printsUptoCard

/-- THE SECOND FORM's CARD OF 'warrantlaw.Runs'. -/
def runsUptoCard : Claim7 := { stood := { row := runsUptoRow, standIns := [], harness := (true, "27661e64ba78e7516f3a2896e4b8f3f5493f1069442e327e641ed9008192e67a"), looks := true }, kinds := [], alts := [], laidByText := true, laidKinds := [.data, .data, .data, .data, .sentinel, .sentinel, .pinned], laidTests := true, laidLooks := .later }
def RunsUptoCardSaid : Prop := Claim7.holds Tryz.pinned (.plain (OpenSpec.upto runsSpec)) runsUptoCard

/-- THE SECOND FORM's CARD OF 'warrantlaw.Checks'. -/
def checksUptoCard : Claim7 := { stood := { row := checksUptoRow, standIns := [], harness := (true, "27661e64ba78e7516f3a2896e4b8f3f5493f1069442e327e641ed9008192e67a"), looks := true }, kinds := [], alts := [], laidByText := true, laidKinds := [.data, .data, .data, .data, .sentinel, .sentinel, .pinned], laidTests := true, laidLooks := .later }
def ChecksUptoCardSaid : Prop := Claim7.holds Tryz.pinned (.plain (OpenSpec.upto checksSpec)) checksUptoCard

/-- THE SECOND FORM's CARD OF 'warrantlaw.Analyses'. -/
def analysesUptoCard : Claim7 := { stood := { row := analysesUptoRow, standIns := [], harness := (true, "27661e64ba78e7516f3a2896e4b8f3f5493f1069442e327e641ed9008192e67a"), looks := true }, kinds := [], alts := [], laidByText := true, laidKinds := [.data, .data, .data, .data, .sentinel, .sentinel, .pinned], laidTests := true, laidLooks := .later }
def AnalysesUptoCardSaid : Prop := Claim7.holds Tryz.pinned (.plain (OpenSpec.upto analysesSpec)) analysesUptoCard

/-- THE SECOND FORM's CARD OF 'warrantkeep.Taken'. -/
def takenUptoCard : Claim7 := { stood := { row := takenUptoRow, standIns := [], harness := (true, "27661e64ba78e7516f3a2896e4b8f3f5493f1069442e327e641ed9008192e67a"), looks := true }, kinds := [], alts := [], laidByText := true, laidKinds := [.data, .data, .data, .data, .sentinel, .sentinel, .pinned], laidTests := true, laidLooks := .later }
def TakenUptoCardSaid : Prop := Claim7.holds Tryz.pinned (.plain (OpenSpec.upto takenSpec)) takenUptoCard

/-- THE SECOND FORM's CARD OF 'warrantkeep.Held'. -/
def heldUptoCard : Claim7 := { stood := { row := heldUptoRow, standIns := [], harness := (true, "27661e64ba78e7516f3a2896e4b8f3f5493f1069442e327e641ed9008192e67a"), looks := true }, kinds := [], alts := [], laidByText := true, laidKinds := [.data, .data, .data, .data, .sentinel, .sentinel, .pinned], laidTests := true, laidLooks := .later }
def HeldUptoCardSaid : Prop := Claim7.holds Tryz.pinned (.plain (OpenSpec.upto heldSpec)) heldUptoCard
end Rows
end Go.Proofs.YtmipbiligijcpaaGreatDoor
