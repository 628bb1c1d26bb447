/- Analyse refuses just what it must; else its certificate is taken, and least; no condition. -/
import Derived.Test.YtmipbiligijcpaaGreatDoorA18
import Derived.Test.YtmipbiligijcpaaGreatDoorA17
namespace Go.Proofs.YtmipbiligijcpaaGreatDoor
theorem analyses_holds:Rows.AnalysesCardSaid:=AB (Ay λs p f a g B h S R w l d e Q c=>Em s p f a g B h S R w ⟨l,d⟩ e Q.1 c.1 Q.2.2.1 c.2.2.1 Q.2.2.2 c.2.2.2 Q.2.1 c.2.1)
end Go.Proofs.YtmipbiligijcpaaGreatDoor
