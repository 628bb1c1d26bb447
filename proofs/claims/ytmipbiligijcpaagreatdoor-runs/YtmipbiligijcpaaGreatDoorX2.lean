/- Runs holds: for every text, inputs and fuel the program answers Run as the document does, twice, with other inputs too; the inputs read as they did, and what came out is its owner's. Conditions: none beyond the card's own (the listed package variables lie as the program's text lays them). -/
import Derived.Test.YtmipbiligijcpaaGreatDoorA39
import Derived.Test.YtmipbiligijcpaaGreatDoorA45
import Derived.Test.YtmipbiligijcpaaGreatDoorA47
namespace Go.Proofs.YtmipbiligijcpaaGreatDoor
set_option linter.unusedVariables false
set_option linter.unusedSimpArgs false
open Go.RowKit Go.Proofs Go.Maps

theorem runs_walk (s : ByteArray) (ao : Option Addr) (cap : Nat) (ins : List Int) (fuel : Int) (w : World) (he : ∃ te pe, w.cell? ⟨5, 0, none⟩ = some (.iface te pe)) (hm : ∃ m, w.cell? ⟨1, 0, none⟩ = some (.int .i64 m)) (hin : ins.length ≤ cap ∧ cap ≤ maxLen ∧ ∀ j x, ins[j]? = some x → ∃ b o, ao = some ⟨b, o, none⟩ ∧ b < w.heap.size ∧ w.cell? ⟨b, o + j, none⟩ = some (.int .i64 x)) (h47 : (ins.length + 1) * 8 ≤ 140737488355328) :
    Calls Tryz.prog 4 #[.string s, .slice ao ins.length cap, .int .i64 fuel] w fun e w' => e = .returned (.bool true) ∧ Below w.heap.size w w' :=
  runs_any s ins ao cap fuel w ⟨he, hm⟩ ⟨ao, cap, rfl, hin.1, hin.2.1, hin.2.2⟩ h47 (fun s fuel ins ia ic w hI => rrun_any s ins ia ic fuel w hI)
theorem runs_holds : Rows.RunsCardSaid := runs_card (runs_said runs_walk)
end Go.Proofs.YtmipbiligijcpaaGreatDoor
