/- Taken holds: for every program, problem, advice and text: Check takes what Analyse writes, whatever the advice; of problems 1 to 5 it is the same with any other advice, and whatever else Check takes as least for this program and problem is the same too; the arguments read as they did. Conditions: none beyond the card's own (the listed package variables lie as the program's text lays them). -/
import Derived.Test.YtmipbiligijcpaaGreatDoorA13
import Derived.Test.YtmipbiligijcpaaGreatDoorA24
namespace Go.Proofs.YtmipbiligijcpaaGreatDoor
theorem sI{x:Int}(h:(Lit.int .i64 x).wf=true):eX x:=by
 simpa[eX,Lit.wf,IntKind.min,IntKind.max,IntKind.signed,IntKind.bits]using h
theorem taken_holds:Rows.TakenCardSaid:=Hn (Hk (fun s t X r Z O ps D pr G w H C J Y c S z=>Mh s t pr G X r Z O ps D w ⟨H,C⟩ J (fun j x h=>(Y.2 j x h).2) (fun j x h=>(c.2 j x h).2) Y.1 c.1 (fun x E=>by obtain⟨j,U⟩:=G3 E;exact sI (Y.2 j x U).1) (fun x E=>by obtain⟨j,U⟩:=G3 E;exact sI (c.2 j x U).1) (sI S) (sI z)))
end Go.Proofs.YtmipbiligijcpaaGreatDoor
