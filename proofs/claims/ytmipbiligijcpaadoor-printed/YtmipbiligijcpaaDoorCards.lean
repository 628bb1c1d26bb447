/-
  DERIVED. GIVEN WITH THE SEED: THE CARDS: each row of YtmipbiligijcpaaDoorRows.lean that lists a variable, with what it lists TIED to the program's text (the seventh form; the later family's looks); each row that meets fmt, with fmt's text TOLD by the authors' own Lean function (tested against real Go, not proved from fmt's source: count such statements apart). THE CARD IS WHAT COUNTS. Prove the row's statement (the work); the ties are given (YtmipbiligijcpaaDoorTie.lean); close each card by the builder's one call (the guide's Derived/Test/ToyasCard.lean, 'card_holds'). Laid BY PROGRAM, IN A SANDBOX (cutbox-door.mjs). By AI agents, Wed Nov 11 2026. No macro, syntax, notation, axiom, sorry.
-/
import Derived.Test.YtmipbiligijcpaaDoorRows
import GoSem.ClaimSeven
namespace Go.Proofs.YtmipbiligijcpaaDoor
namespace Rows

/-- THE TIED CARD OF 'warrantkeep.Printed'. -/
def printedCard : Claim7 := { stood := { row := printedRow, standIns := [], harness := (true, "3df60787ca5aa8f8e95c65e725e50a3be08b7119082897d77e9121784958f8ed"), looks := true }, kinds := [], alts := [], laidByText := true, laidKinds := [.data, .data, .data, .data, .sentinel, .sentinel, .pinned], laidTests := true, laidLooks := .later }
def PrintedCardSaid : Prop := Claim7.holds Tryd.pinned (.plain (OpenSpec.ofChange printedSpec)) printedCard

/-- THE SECOND FORM's CARD OF 'warrantkeep.Printed'. -/
def printedUptoCard : Claim7 := { stood := { row := printedUptoRow, standIns := [], harness := (true, "3df60787ca5aa8f8e95c65e725e50a3be08b7119082897d77e9121784958f8ed"), looks := true }, kinds := [], alts := [], laidByText := true, laidKinds := [.data, .data, .data, .data, .sentinel, .sentinel, .pinned], laidTests := true, laidLooks := .later }
def PrintedUptoCardSaid : Prop := Claim7.holds Tryd.pinned (.plain (OpenSpec.upto printedSpec)) printedUptoCard
end Rows
end Go.Proofs.YtmipbiligijcpaaDoor
