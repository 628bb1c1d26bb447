/- What Check takes, each run keeps to; no condition. -/
import Derived.Test.YtmipbiligijcpaaGreatDoorA13
import Derived.Test.YtmipbiligijcpaaGreatDoorA14
namespace Go.Proofs.YtmipbiligijcpaaGreatDoor
variable {w:t'}{m:u'}{F:List Int}
theorem qs{x:Int}(h:(Lit.int .i64 x).wf=true):dK x:=by simpa[dK,Lit.wf,IntKind.min,IntKind.max,IntKind.signed,IntKind.bits]using h
theorem Uh{V:Nat}(h:Ay w m F/\F.length<=V/\V<=maxLen):CP w w.1.size (bk m F.length V) F:=⟨m,V,rfl,h.2.1,h.2.2,λj x f=>by
 obtain⟨b,o,e,T⟩:=(h.1.2 j x f).2
 exact⟨b,o,e,dh T,T⟩⟩
theorem vt(h:Ay w m F):∀x∈F,dK x:=λx F=>by obtain⟨j,f⟩:=L6 F;exact qs (h.2 j x f).1
theorem held_holds:Rows.HeldCardSaid:=Qk (Qh λs t C h j a S V c R F u f g w l d e Q p m b W i=>Uy s t u f g C h j a S V c R F w ⟨l,d⟩ e (λj x h=>(Q.2 j x h).2) (λj x h=>(p.2 j x h).2) Q.1 p.1 (vt Q) (vt p) (qs b) (qs W) (qs i) (vt m.1)<|Uh m)
end Go.Proofs.YtmipbiligijcpaaGreatDoor
