import Derived.Test.YtmipbiligijcpaaGreatDoorRows
import Derived.Test.YtmipbiligijcpaaGreatDoorCards
import Derived.Test.YtmipbiligijcpaaGreatDoorTie
import Derived.ProofKit
namespace Go.Proofs.YtmipbiligijcpaaGreatDoor
set_option linter.all false
set_option maxHeartbeats 0
set_option maxRecDepth 1000000
section
open Go.ChangeShapes Go.WideShapes Go.ChangeAt Go.RowKit
theorem B?:Tryz.pinned.checked.prog.funcNamed Rows.checksRow.func=some 5:=by kernel_rfl
theorem D3:joinedFacts Tryz.pinned.checked.prog 5 Tryz.f5 Rows.checksSpec Rows.checksRow=true:=by
 unfold joinedFacts
 repeat' (with_reducible refine(Bool.and_eq_true_iff).2 ⟨?_,?_⟩)
 all_goals(as_aux_lemma=>kernel_rfl)
end
