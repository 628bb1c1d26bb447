/- Printed holds: for every text, inputs, fuel and more: what was printed prints as itself and runs as the program does, and with more fuel a run is the same as far as the first one went; the arguments read as they did. Conditions: none beyond the card's own (the listed package variables lie as the program's text lays them). -/
import Derived.Test.YtmipbiligijcpaaDoorK2
import Derived.Test.YtmipbiligijcpaaDoorK3
namespace Go.Proofs.YtmipbiligijcpaaDoor
set_option linter.unusedVariables false
set_option linter.unusedSimpArgs false
open Go.RowKit Go.Proofs Go.Maps

theorem lit_range {x : Int} (h : (Lit.int .i64 x).wf = true) : -9223372036854775808 ≤ x ∧ x ≤ 9223372036854775807 := by
  simpa [Lit.wf, IntKind.min, IntKind.max, IntKind.signed, IntKind.bits] using h
theorem printed_holds : Rows.PrintedCardSaid := by
  refine printed_card (printed_said (fun s ao cap ins fuel more w he hm hin w2 w3 => ?_))
  have hE : Env w := ⟨he, hm⟩
  rcases hr : prs s with b | ⟨pl, vs⟩
  · exact printed_bad s ao ins.length cap fuel more b w hE hr
  · exact printed_good s ao cap ins fuel more pl vs w hE ⟨ao, cap, rfl, hin⟩ (lit_range w2) (lit_range w3) hr
end Go.Proofs.YtmipbiligijcpaaDoor
