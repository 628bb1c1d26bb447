/- Every Check answers as the document does; no condition. -/
import Derived.Test.YtmipbiligijcpaaGreatDoorA11
import Derived.Test.YtmipbiligijcpaaGreatDoorA16
namespace Go.Proofs.YtmipbiligijcpaaGreatDoor
theorem checks_holds:Rows.ChecksCardSaid:=Hs<|Hp λs t w l d U=>Lh s t w ⟨l,d⟩ U
end Go.Proofs.YtmipbiligijcpaaGreatDoor
