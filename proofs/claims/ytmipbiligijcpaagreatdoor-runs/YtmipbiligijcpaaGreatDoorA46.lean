/- A part of the proof: contracts of functions of the program. -/
import Derived.Test.YtmipbiligijcpaaGreatDoorRows
import Derived.Test.YtmipbiligijcpaaGreatDoorCards
import Derived.Test.YtmipbiligijcpaaGreatDoorTie
import Derived.ProofKit
namespace Go.Proofs.YtmipbiligijcpaaGreatDoor
set_option linter.unusedVariables false
set_option linter.unusedSimpArgs false
open Go.ChangeShapes Go.WideShapes Go.ChangeAt Go.RowKit

theorem runs_fn : Tryz.pinned.checked.prog.funcNamed Rows.runsRow.func = some 4 := by kernel_rfl
set_option maxHeartbeats 400000000 in
set_option maxRecDepth 1000000 in
theorem runs_facts : joinedFacts Tryz.pinned.checked.prog 4 Tryz.f4 Rows.runsSpec Rows.runsRow = true := by
  unfold joinedFacts
  repeat' (with_reducible refine (Bool.and_eq_true_iff).2 ⟨?_, ?_⟩)
  all_goals (as_aux_lemma => kernel_rfl)
end Go.Proofs.YtmipbiligijcpaaGreatDoor
