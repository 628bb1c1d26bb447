import Derived.Test.YtmipbiligijcpaaGreatDoorRows
import Derived.Test.YtmipbiligijcpaaGreatDoorCards
import Derived.Test.YtmipbiligijcpaaGreatDoorTie
import Derived.ProofKit
namespace Go.Proofs.YtmipbiligijcpaaGreatDoor
set_option linter.all false
set_option maxHeartbeats 400000000
set_option maxRecDepth 1000000
section
open Go.ChangeShapes Go.WideShapes Go.ChangeAt Go.RowKit
theorem D7:Tryz.pinned.checked.prog.funcNamed Rows.takenRow.func=some 7:=by kernel_rfl
theorem D8:joinedFacts Tryz.pinned.checked.prog 7 Tryz.f7 Rows.takenSpec Rows.takenRow=true:=by
 unfold joinedFacts
 repeat' (with_reducible refine(Bool.and_eq_true_iff).2 ⟨?_,?_⟩)
 all_goals(as_aux_lemma=>kernel_rfl)
end
end Go.Proofs.YtmipbiligijcpaaGreatDoor
