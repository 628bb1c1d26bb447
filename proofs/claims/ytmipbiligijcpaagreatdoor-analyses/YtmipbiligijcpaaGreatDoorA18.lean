import Derived.Test.YtmipbiligijcpaaGreatDoorRows
import Derived.Test.YtmipbiligijcpaaGreatDoorCards
import Derived.Test.YtmipbiligijcpaaGreatDoorTie
import Derived.ProofKit
import Derived.OpenShut
import Derived.ShutString
import Derived.Lay
import Derived.HandedShaped
import Derived.Shelf.Vars
import Derived.Lib.LaidU8
import Derived.SevenTiedAt
import Derived.Deep.Slices
import Derived.Test.YtmipbiligijcpaaGreatDoorA03
namespace Go.Proofs.YtmipbiligijcpaaGreatDoor
set_option linter.all false
set_option maxHeartbeats 0
set_option maxRecDepth 1000000
open Go.ChangeShapes Go.WideShapes Go.ChangeAt Go.RowKit Go.Deep List open List renaming length->ζ open _root_.Array renaming size->δ open World renaming cell?->χ open Value renaming slice->g',bool->h',agg->j',string->k' open Ending renaming returned->n' open Option renaming some->z',none->A' open Bool renaming true->N',false->O'
section
open Go.ChangeShapes Go.WideShapes Go.ChangeAt Go.RowKit
theorem vX:Tryz.pinned.checked.prog.funcNamed Rows.analysesRow.func=some 6:=by kernel_rfl
theorem zQ:joinedFacts Tryz.pinned.checked.prog 6 Tryz.f6 Rows.analysesSpec Rows.analysesRow=true:=by
 unfold joinedFacts
 repeat' (with_reducible refine(Bool.and_eq_true_iff).2 ⟨?_,?_⟩)
 all_goals(as_aux_lemma=>kernel_rfl)
end
section
variable {t:TypeId}{L:List y'}{W:p'}
open Go.ChangeMaps (open_string shut_string)
def abj:ownKnob Tryz.prog.godebug=A':=M
def Ag{H:Type}{enc:TypeId×y'->H}{a:Assume}{C:Checked}{F:Os}{f:FuncId}{g:Func}{s:ChangeSpec}{z:List PathCond}{o r h q:Bool}{X:p'->Array y'->Prop}
    (R:∀(w j:p')(c:Array y'),w.1=j.1->X w c->X j c)
    (L:ownKnob C.prog.godebug=A') (n:F.Started) (D:C.prog.inits.idxOf? f=A') (E:C.prog.funcs[f]?=z' g)
    (B:∃(w:p')(d:Tape)(i:Input),w.os=F/\(w.forCall d i).Shaped C.prog/\i.vars=[]/\Input.okWide C.prog (w.forCall d i) .any w.1.size f i /\
      ((s.pre enc C.prog g z o (w.forCall d i).memory i.args/\X (w.forCall d i).memory i.args)/\sizedMet enc C.prog g (OpenSpec.ofChange s) o (w.forCall d i).memory i.args)/\a.holds C.prog (lone (Frame.enter C.prog f i.args .normal) []<|w.forCall d i))
    (p:∀(W:p')(k:Nat)(c:Array y')(y T:List<|DataW H)(x:List MemPlace),
      (∀(j:Nat) t v,g.params[j]?=z' t->c[j]?=z' v->Value.okWide C.prog W .any k t v) ->
      DataW.Whole enc C.prog g.params.toList s.vars o W c.toList y T x ->
      X W c->(DataW.weightsEach C.prog (g.params.toList++(OpenSpec.ofChange s).bare.plain.varTypes C.prog)<|y++T).all (·<=reachBytes)=N'->W.ShapedOpen C.prog ->
      Calls C.prog f c W λe Q=>∃v,e=n' v/\s.post enc C.prog g o r h q W c v Q):
    ReturnsInHanded a C F f .any (λw c=>(s.pre enc C.prog g z o w c/\X w c)/\sizedMet enc C.prog g (OpenSpec.ofChange s) o w c) (s.post enc C.prog g o r h q):=by
  refine returnsInHanded_of_calls L n D B ?_;intro w d i _ P _ o K _;obtain⟨_,_,_,N,a,_,_,_,_,u⟩:=o;have e:=cJ<|a.symm.trans E;subst e;obtain⟨⟨_,F⟩,_,y,T,x,B,a⟩:=K;have L:=DataW.Whole.of_heap (w':=w.forCall d i) (by rfl) B;refine(p (w.forCall d i) w.1.size i.args y T x u L (R _ _ _ (by rfl) F) a P).mono λe Q ⟨v,l,U⟩=>?_;subst l;exact ChangeSpec.post_blind U
def iface_of_trod{P:Program}{w:p'}{a:Nat}{nm:String}{x:DataW Unit}{p:List MemPlace}{c:Array (String×TypeId)}(C:P.underlying t=z' (.interface c))(h:DataW.trod (λ_=>()) P w 0 (λ_=>N') O' a t L=z' (.iface nm x,p)):∃u v,L=[.iface u v]:=by
 cases a with
 |zero=>simp[DataW.trod]at h
 |succ f=>unfold DataW.trod at h;rw[C]at h;split at h<;>simp_all
def G!(e:laidMetH Tryz.prog Rows.analysesRow.laid W):∃i z,χ W (O 5 0)=z' (.iface i z):=by rw [MakeChecks.laidMetH_plain _ _ _ M] at e;obtain ⟨g, t, L, c, p, C, f, N, d⟩ := Lib.laidMet.reads e (n := "strconv.ErrRange") (d := Rows.laid_strconv_ErrRange) (by simp [Rows.analysesRow]);obtain rfl := cJ ((show Tryz.prog.globalNamed "strconv.ErrRange" = z' 5 by kernel_rfl).symm.trans C);obtain rfl := cJ ((show (Tryz.prog.globals[5]?).map (·.type) = z' 161 by kernel_rfl).symm.trans f);obtain⟨u,v,a⟩:=iface_of_trod Tryz.underlying161 d;have:=World.var?_cell C N 0;obtain⟨l⟩:=L;obtain rfl:l=[.iface u v]:=a;exact⟨u,v,this⟩
def aaS(C:laidMetH Tryz.prog Rows.analysesRow.laid W):∀j,j<64->χ W (O 0 j)=z' (.int .u8 ((Lib.deBruijn64tab.getD j 0:Nat):Int)):=by rw [MakeChecks.laidMetH_plain _ _ _ M] at C;obtain ⟨g, t, L, a, p, c, e, N, d⟩ := Lib.laidMet.reads C (n := "math/bits.deBruijn64tab") (d := Rows.laid_math_bits_deBruijn64tab) (by simp [Rows.analysesRow]);obtain rfl := cJ ((show Tryz.prog.globalNamed "math/bits.deBruijn64tab" = z' 0 by kernel_rfl).symm.trans c);obtain rfl := cJ ((show (Tryz.prog.globals[0]?).map (·.type) = z' 405 by kernel_rfl).symm.trans e);have Q:(Rows.laid_math_bits_deBruijn64tab:DataW Unit)=Lib.tabData .u8 (Lib.deBruijn64tab.map Int.ofNat):=rfl;rw[Q]at d;have T:=Lib.cells_of_tab Tryz.underlying405 Tryz.underlying5 M M d;intro j f;have:=World.var?_cell c N j;rw[this,<-Array.getElem?_toList,T];have X:Lib.deBruijn64tab.length=64:=rfl;simp[getD,X,f]
def Pb(h:W.ShapedOpen Tryz.prog):∃m,χ W (O 1 0)=z' (G m):=
 cell_of_shapedOpen_int (zero:=#[G 0]) h (vj M) M rfl M M Tryz.underlying3
def P2:Tryz.prog.cellsOf 36=1:=M
def UL:Tryz.prog.cellsOf 23=1:=M
def UK:Tryz.prog.cellsOf 38=3:=M
section
variable {H:Type}{enc:TypeId×y'->H}{W:p'}{sp:Nat->Bool}{held:Bool}
def wf_i64{x:Int}(h:(Lit.int .i64 x).wf=N'):ga x:=by simp[Lit.wf]at h;exact⟨by simpa[IntKind.min,IntKind.bits,IntKind.signed]using h.1,by simpa[IntKind.max,IntKind.bits,IntKind.signed]using h.2⟩
def YS(t:TypeId)(d:DataW H):Prop:=∀x∈d.weights Tryz.prog t,x<=reachBytes
def Li(w:p')(qa:t')(qc:Nat)(ps:List Int):Prop:=bK w qa ps/\(∀x∈ps,ga x)/\(qa=A'->qc=0)/\ζ ps*8<=140737488355328
def Nx{e:TypeId}{d:Nat}{c:y'}{y:DataW H×List MemPlace}(U:Tryz.prog.underlying t=z' (.slice e))(l:Tryz.prog.underlying e=z' (.int .i64))(T:Tryz.prog.cellsOf e=1)(w:Tryz.prog.bytesOf e=8)(h:DataW.trod enc Tryz.prog W 0 (λ_=>N') held d t [c]=z' y)(s:YS t y.1):
  ∃d q,∃D:List Int,c=g' d (ζ D) q/\Li W d q D:=by
 rcases open_ints U l T h with⟨i,_⟩|⟨a,k,n,u,i,_,X,d,f,F,Y,g⟩
 .simp at i;exact⟨A',0,[],by rw[i];rfl,(λj x p=>by simp at p),(λx F=>by cases F),λ_=>rfl,ak⟩
 simp at i;have c:=H' f;have L:ζ (u.take k)=k:=by simp;omega
 refine⟨z' a,n,u.take k,by rw[L];exact i,?_,λx F=>wf_i64<|g x<|xi F,(λh=>by cases h),?_⟩;rotate_left
 .rw[F]at s;unfold YS at s;rw[DataW.weights,U]at s;have:=s _<|od ..;rw[w]at this;simp only[lits,b9,jk,xA,reachBytes]at this;rw[L];omega
 intro j x p;have r:=(aX.1 p).1;rw[L]at r;have D:=Y 0 I;have v:a.spot=A':=by have:=World.cell?_spot D;simpa[Addr.add]using this
 obtain⟨b,o,s⟩:=a;simp only at v;subst v;have f:=Y j I;rw[dY]at f;rw[xj,aD r]at p;have Q:u.getD j 0=x:=by simp[getD,p]
 rw[Q]at f;exact⟨b,o,rfl,f⟩
def aaR{c:Nat}{x:DataW H×List MemPlace}(h:DataW.trod enc Tryz.prog W 0 (λ_=>true) held c 38 L=some x)(l:YS 38 x.1):
  ∃(a:Option Addr)(B:Nat)(g:List Int)(i:Option Addr)(S:Nat)(R:List Int)(c:Int),L=[.slice a (ζ g) B,.slice i (ζ R) S,G c]/\Li W a B g/\Li W i S R:=by
 obtain⟨D,n,rfl,F,X,e,Y⟩:=DataW.trod_struct Tryz.underlying38 h;rw[UK]at X
 match L,X with
 | [T,Q,p],_=>
  have d:ζ D=3:=by simpa using e
  match D,d with
  | [e,c,d],_=>
   have j:=Y 0 _ rfl;have K:=Y 1 _ rfl;have q:=Y 2 _ rfl;simp only[P2,UL,(show Tryz.prog.cellsOf 3=1 by kernel_rfl),drop,take,getElem?_cons_zero,q?]at j K q;have o:x.1.weights Tryz.prog 38=e.1.weights Tryz.prog 36++(c.1.weights Tryz.prog 23++(d.1.weights Tryz.prog 3++[])):=by rw[F];show DataW.weights Tryz.prog 38 (.agg [e.1,c.1,d.1])=_;rw[DataW.weights,Tryz.underlying38];simp[DataW.weightsEach]
   obtain⟨a,B,g,rfl,r⟩:=Nx Tryz.underlying36 Tryz.underlying3 M M j (λz f=>l z<|by rw[o];simp[f]);obtain⟨i,S,R,rfl,s⟩:=Nx Tryz.underlying23 Tryz.underlying2 M M K (λz f=>l z<|by rw[o];simp[f]);obtain⟨k,u,_,_⟩:=DataW.trod_int Tryz.underlying3 q;cases u;exact⟨a,B,g,i,S,R,k,rfl,r,s⟩
end
def Walk:Prop:=∀(s:x')(p nr:Int)(pa ta:t')(pc tc:Nat)(ps ts:List Int)(w:p'),(∃te pe,χ w (O 5 0)=z' (.iface te pe))->(∃m,χ w (O 1 0)=z' (G m))->(∀j,j<64->χ w (O 0 j)=z' (.int .u8 ((Lib.deBruijn64tab.getD j 0:Nat):Int)))->Li w pa pc ps->Li w ta tc ts->Calls Tryz.prog 6 #[k' s,G p,j' #[g' pa (ζ ps) pc,g' ta (ζ ts) tc,G nr]] w (Rb w<|h' N')
def Wd:laidOutB Tryz.prog=N':=M
def wK(hw:Walk)(j:Os)(n:j.Started)(H:Type)(enc:TypeId×y'->H):
    ReturnsInHanded {} Tryz.checked j 6 .any (λw c=>(Rows.analysesSpec.pre enc Tryz.prog Tryz.f6 [] O' w c/\laidMetH Tryz.prog Rows.analysesRow.laid w)/\sizedMet enc Tryz.prog Tryz.f6 (OpenSpec.ofChange Rows.analysesSpec) O' w c)
      (Rows.analysesSpec.post enc Tryz.prog Tryz.f6 O' N' O' O'):=by
  refine Ag (C:=Tryz.checked) (X:=λw _=>laidMetH Tryz.prog Rows.analysesRow.laid w) (λ_ _ _ V h=>h.of_heap V) abj n M Tryz.func6
    (ChangeSpec.witness_shaped (enc:=enc) (C:=Tryz.checked) (os:=j) (X:=λw _=>laidMetH Tryz.prog Rows.analysesRow.laid w) O' (World.laidAll Tryz.prog j Rows.analysesRow.laid) #[k' ByteArray.empty,G 0,j' #[g' A' 0 0,g' A' 0 0,G 0]] 8 (World.laidAll_os _ _ _)
      (World.shaped_of_ZipB M M) M M M
      (by rw[MakeChecks.laidMetH_plain _ _ _ M];exact laidMet_laidAll _ M M)) ?_
  intro W k c y T j f e C n ax;have u:∀(j:Nat) t v,Tryz.f6.params[j]?=z' t->c[j]?=z' v->Value.okWide Tryz.prog W .any k t v:=f;have Qp:=e;have Ip:(DataW.weightsEach Tryz.prog (Tryz.f6.params.toList++(OpenSpec.ofChange Rows.analysesSpec).bare.plain.varTypes Tryz.prog)<|y++T).all (·<=reachBytes)=N':=n;obtain⟨p,q,o,g,rfl,E,r⟩:=e;have s:DataW.TrodAll enc Tryz.prog W 0 (λ_=>N') N' Tryz.f6.params.toList c.toList y p:=o;rw[Tryz.params6]at s u Ip;obtain⟨L,j,t,j,j,r,z,rfl,rfl,D,r0⟩:=trodAll_cons s;obtain⟨v1,X,Y,j,F,j,rfl,rfl,rfl,h1,r1⟩:=trodAll_cons r0;obtain⟨v2,j,d2,j,p2,F,rfl,rfl,rfl,h2,r2⟩:=trodAll_cons r1;obtain⟨rfl,rfl,rfl⟩:=trodAll_nil r2;obtain rfl:c=#[L,v1,v2]:=by cases c;simp_all
  obtain⟨rfl,rfl⟩:=trodVars_none g;have l:YS 38 d2:=by intro x F;have:=bV.1 Ip x (by simp[DataW.weightsEach];exact aR<|aR F);simpa using this
  obtain⟨U,rfl,rfl,rfl,w0⟩:=open_string Tryz.underlying9 (u 0 9 L rfl rfl) D;obtain⟨N,rfl,rfl,rfl,w1⟩:=open_int Tryz.underlying3 (u 1 3 v1 rfl rfl) h1;obtain⟨cs,rfl,hcs⟩:=okWide_struct Tryz.underlying38<|u 2 38 v2 rfl rfl;have au:∀x∈p2,x.block<δ W.1:=by obtain⟨m,c⟩:=h2;exact DataW.trod_lt m _ _ _ c
  have k2:=h2;obtain⟨pa,B,ps,ta,e,R,nr,bl,c2,c3⟩:∃(pa:t')(B:Nat)(ps:List Int)(ta:t')(e:Nat)(R:List Int)(nr:Int),cs.toList=[g' pa (ζ ps) B,g' ta (ζ R) e,G nr]/\Li W pa B ps/\Li W ta e R:=by obtain⟨fuel,Y⟩:=h2;exact aaR Y l
  obtain rfl:cs=#[g' pa (ζ ps) B,g' ta (ζ R) e,G nr]:=by apply QD.1;rw[bl]
  clear o f;refine(hw U N nr pa ta B e ps R W (G! C) (Pb ax) (aaS C) c2 c3).mono λe c ⟨o,f⟩=>?_;subst o;exact⟨_,rfl,_,_,_,[],_,[],Qp,trodAll_mk1<|shut_bool Tryz.underlying4 _,(trodAll_cons_mk (shut_string Tryz.underlying9 w0)<|trodAll_cons_mk (shut_int Tryz.underlying3 w1)<|trodAll_cons_mk (Below.trod Wd M (vj M) k2 f au) trodAll_mk0),rfl,f.frame _,λh=>by cases h⟩
def Ay(B:Walk):Rows.AnalysesSaid:=
 OpenClaim.holds_of_wide 6 Tryz.f6 rfl rfl rfl rfl rfl rfl rfl ⟨rfl,rfl,rfl,rfl,rfl⟩ rfl rfl rfl rfl rfl vX Tryz.func6 zQ
  (vj M) (by unfold Func.isWrapper;first|(rw[aD<|by decide +kernel];kernel_rfl)|(rw[aA<|by decide +kernel];exact⟨rfl,rfl⟩))
  (λa n H enc _=>wK B a n H enc)
def Hu:OpenClaim.wfByText (OpenSpec.ofChange Rows.analysesSpec) Rows.analysesRow=N':=M
def Az:Tryz.pinned.checked.prog.mainIs=z' (Rows.analysesCard.stood.harness.fst,Rows.analysesCard.stood.harness.snd.toList):=M
def zP:N'=Tryz.pinned.checked.prog.looks []:=M
def wJ:([9,3,38].all λu=>!Tryz.prog.wantsStandIn u)=N':=M
def AA:O'=Rows.analysesRow.goesBy Tryz.pinned.checked.prog:=M
def AB (h:Rows.AnalysesSaid):Rows.AnalysesCardSaid:=
  Claim7.holds_tied_plain_at .later [] [.data,.data,.data,.data,.sentinel,.sentinel,.pinned] N' Rows.analysesCard.stood.harness N'
    h (λ_ h=>by cases h) Hu (λ_ h=>by cases h) analyses_row_tie rfl ⟨rfl,rfl⟩ Az rfl
    (λf g Y E=>by
      obtain rfl:f=6:=cJ (vX.symm.trans Y) |>.symm;obtain rfl:g=Tryz.f6:=(cJ<|Tryz.func6.symm.trans E).symm
      exact⟨zP,λj t U=>by
        rw[Tryz.params6]at U;have d:t∈[9,3,38]:=by simpa using Array.mem_of_getElem? U
        have R:([9,3,38].all λu=>!Tryz.prog.wantsStandIn u)=N':=wJ
        exact(show Tryz.prog.wantsStandIn t=O' by simpa using bV.1 R t d)⟩)
    AA
end
end Go.Proofs.YtmipbiligijcpaaGreatDoor
